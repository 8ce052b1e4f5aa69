import Derived.Test.YtecdfnpbcabdnaaGreatDoorBoxes
import Derived.OrdersHeld
import Derived.Test.YtecdfnpbcabdnaaGreatDoorMhJ
import Derived.Test.YtecdfnpbcabdnaaGreatDoorPsK
import Derived.Deep.RegionHeld3
section
namespace Go.Proofs.YtecdfnpbcabdnaaGreatDoor
open Go.RowKit
def putsP (f:Nat->Nat)(rem:List (Nat×Nat))(a:Act):Act:=rem.foldl (fun a x=>a.put (some x.2) (.pointer (some ⟨f x.1,0,none⟩))) a
def listsP (rem:List (Nat×Nat))(listed:Array Bool):Array Bool:=rem.foldl (fun l x=>l.setIfInBounds x.1 true) listed
def allocN (o:Obj):Nat->World->World
 | 0,w=>w
 | n+1,w=>allocN o n (w.alloc o)
theorem snd_inj {l:List (Nat×Nat)}(h:(l.map Prod.snd).Nodup):∀ x y,x∈l->y∈l->x.2=y.2->x=y:=by
 induction l with
 | nil=>intro x y hx;simp at hx
 | cons z l ih=>
   rw[List.map_cons,List.nodup_cons] at h
   intro x y hx hy e
   rcases List.mem_cons.1 hx with rfl | hx2
   ·rcases List.mem_cons.1 hy with rfl | hy
    ·rfl
    ·exact absurd (e ▸ List.mem_map_of_mem hy) h.1
   ·rcases List.mem_cons.1 hy with rfl | hy
    ·exact absurd (e ▸ List.mem_map_of_mem hx2) h.1
    ·exact ih h.2 x y hx2 hy e
theorem foldl_same {α β : Type}{f g : α -> β -> α}:∀ (l:List β) (a : α),(∀ b y,y∈l->f b y=g b y)->l.foldl f a=l.foldl g a
 | [],_,_=>rfl
 | y::l,a,h=>by
   simp only[List.foldl_cons]
   rw[h a y (by simp)]
   exact foldl_same l _ (fun b z hz=>h b z (by simp[hz]))
theorem puts_perm {f:Nat->Nat}{r r':List (Nat×Nat)}(h:r.Perm r')(hd:(r.map Prod.snd).Nodup)(a:Act):putsP f r a=putsP f r' a:=by
 refine h.foldl_eq' (fun x hx y hy z=>?_) a
 by_cases e:x=y
 ·rw[e]
 ·refine Act.put_comm z _ _ ?_
  intro d hd1 hd2
  simp only[Option.some.injEq] at hd1 hd2
  exact e (snd_inj hd x y hx hy (by rw[hd1,hd2]))
theorem lists_perm {r r':List (Nat×Nat)}(h:r.Perm r')(l:Array Bool):listsP r l=listsP r' l:=by
 refine h.foldl_eq' (fun x _ y _ z=>?_) l
 by_cases e:x.1=y.1
 ·rw[e]
 ·exact Array.setIfInBounds_comm _ _ e
theorem wpAnyH_allocs {P:Program}{ops:Array Oper}{Q:Exit->Act->World->Prop}{md:Region.Mode}{S:World->Prop}{T:TypeId}{ob:Obj}
 (hrun:∀ (a:Act) (w:World) (o:Oper),o.op=Op.alloc T->(execOp a.eval o).run P w=.ok (.value (.pointer (some ⟨w.heap.size,0,none⟩))) (w.alloc ob))
 (hS:∀ w,S w->S (w.alloc ob)) (fuel:Nat):∀ (n:Nat) (rem:List (Nat×Nat)) (listed:Array Bool) (a:Act) (w:World),rem.length=n ->
 (∀ x,x∈rem->listed.getD x.1 true=false/\∃ o,ops[x.1]? = some o/\o.op=Op.alloc T/\o.dst=some x.2/\o.guard=none/\o.after=#[]) ->
 (∀ j o,ops[j]? = some o->listed.getD j true=false->(∀ x,x∈rem->x.1≠j)->∀ x,x∈rem->∃ e,e∈o.after/\Region.binds md e=true/\e.on=x.1) ->
 (rem.map Prod.fst).Nodup->(rem.map Prod.snd).Nodup->S w ->
 (∀ f:Nat->Nat,(∀ x,x∈rem->w.heap.size<=f x.1/\f x.1<w.heap.size+n)->(∀ x y,x∈rem->y∈rem->x.1≠y.1->f x.1≠f y.1)->S (allocN ob n w)->wpAnyH P md ops Q S fuel (listsP rem listed) (putsP f rem a) (allocN ob n w)) ->
 wpAnyH P md ops Q S (fuel+n) listed a w:=by
 intro n
 induction n with
 | zero=>
   intro rem listed a w hl _ _ _ _ hw H
   obtain rfl:=List.eq_nil_of_length_eq_zero hl
   exact H (fun _=>0) (by simp) (by simp) hw
 | succ n ih=>
   intro rem listed a w hl h1 h2 hk hd hw H
   obtain⟨x0,hx0⟩:∃ x,x∈rem:=by
    cases rem with
    | nil=>simp at hl
    | cons x r=>exact⟨x,by simp⟩
   refine⟨fun hr=>?_,fun i hi=>?_⟩
   ·obtain⟨u,o,ho,_,_,_,ha⟩:=h1 x0 hx0
    have:x0.1∈Region.ready md ops listed:=mem_ready.2 ⟨u,o,ho,by rw[ha];simp⟩
    rw[hr] at this
    cases this
   ·obtain⟨hun,oi,hoi,hall⟩:=mem_ready.1 hi
    obtain⟨x,hx,rfl⟩:∃ x,x∈rem/\x.1=i:=by
     apply Classical.byContradiction
     intro hno
     obtain⟨e,he,hb,hon⟩:=h2 i oi hoi hun (fun x hx e=>hno ⟨x,hx,e⟩) x0 hx0
     have h3:=hall e he hb
     have h4:=(h1 x0 hx0).1
     rw[hon] at h3
     rcases Nat.lt_or_ge x0.1 listed.size with h' | h'
     ·simp[h'] at h3 h4;rw[h4] at h3;cases h3
     ·simp[Array.getElem?_eq_none h'] at h3
    obtain⟨_,o,ho,hop,hdst,hg,_⟩:=h1 x hx
    have hperm:rem.Perm (x::rem.erase x):=List.perm_cons_erase hx
    have hl':(rem.erase x).length=n:=by rw[List.length_erase_of_mem hx,hl];rfl
    have hk':((x::rem.erase x).map Prod.fst).Nodup:=(hperm.map Prod.fst).nodup_iff.1 hk
    have hd':((x::rem.erase x).map Prod.snd).Nodup:=(hperm.map Prod.snd).nodup_iff.1 hd
    have hne:∀ y,y∈rem.erase x->y.1≠x.1:=fun y hy e=>by
     rw[List.map_cons,List.nodup_cons] at hk'
     exact hk'.1 (e ▸ List.mem_map_of_mem hy)
    unfold wpOp
    simp only[ho]
    have hwd:Region.wanted o (yielded ops a.tmps)=true:=by simp[Region.wanted,hg]
    rw[if_pos hwd]
    refine .inl ?_
    unfold Oper.wp
    rw[hrun a w o hop]
    simp only[Oper.upon]
    refine⟨hS w hw,?_⟩
    rw[hdst]
    refine ih (rem.erase x) _ _ _ hl' (fun y hy=>?_) (fun j oj hj hju hno y hy=>?_) (by rw[List.map_cons,List.nodup_cons] at hk';exact hk'.2) (by rw[List.map_cons,List.nodup_cons] at hd';exact hd'.2) (hS w hw) (fun f' r1 r2 r3=>?_)
    ·obtain⟨u,o2,q⟩:=h1 y (List.mem_of_mem_erase hy)
     exact⟨by rw[getD_set_ne true (Ne.symm (hne y hy))];exact u,o2,q⟩
    ·have hji:j≠x.1:=by
      rintro rfl
      rcases Nat.lt_or_ge x.1 listed.size with h' | h'
      ·simp[h'] at hju
      ·have:=hun;simp[Array.getElem?_eq_none h'] at this
     rw[getD_set_ne true (Ne.symm hji)] at hju
     refine h2 j oj hj hju (fun z hz=>?_) y (List.mem_of_mem_erase hy)
     by_cases e:z=x
     ·rw[e];exact Ne.symm hji
     ·exact hno z ((List.mem_erase_of_ne e).2 hz)
    ·have hf:∀ y,y∈rem.erase x->(if y.1=x.1 then w.heap.size else f' y.1)=f' y.1:=fun y hy=>if_neg (hne y hy)
     have hmem:∀ y,y∈rem->y=x\/y∈rem.erase x:=fun y hy=>List.mem_cons.1 (hperm.mem_iff.1 hy)
     have hsz:(w.alloc ob).heap.size=w.heap.size+1:=by simp
     have hH:=H (fun k=>if k=x.1 then w.heap.size else f' k) (fun y hy=>?_) (fun y z hy hz hyz=>?_) r3
     ·rw[puts_perm hperm hd,lists_perm hperm] at hH
      have e1:putsP (fun k=>if k=x.1 then w.heap.size else f' k) (x::rem.erase x) a=putsP f' (rem.erase x) (a.put (some x.2) (.pointer (some ⟨w.heap.size,0,none⟩))):=by
       simp only[putsP,List.foldl_cons,if_true]
       exact foldl_same _ _ (fun b y hy=>by rw[hf y hy])
      rw[e1] at hH
      exact hH
     ·rcases hmem y hy with rfl | hy
      ·simp
      ·show w.heap.size<=(if y.1=x.1 then w.heap.size else f' y.1)/\_
       have:=r1 y hy
       rw[hf y hy]
       omega
     ·show (if y.1=x.1 then w.heap.size else f' y.1)≠(if z.1=x.1 then w.heap.size else f' z.1)
      rcases hmem y hy with rfl | hy
      ·rcases hmem z hz with rfl | hz
       ·exact absurd rfl hyz
       ·rw[if_pos rfl,hf z hz]
        have:=r1 z hz
        omega
      ·rcases hmem z hz with rfl | hz
       ·rw[if_pos rfl,hf y hy]
        have:=r1 y hy
        omega
       ·rw[hf y hy,hf z hz]
        exact r2 y z hy hz hyz
def isAlloc (T:TypeId)(o:Op):Bool:=match o with
 | .alloc t=>t==T
 | _=>false
def allocsOk (md:Region.Mode)(T:TypeId)(ops:Array Oper)(listed:Array Bool)(rem:List (Nat×Nat)):Bool:=
 rem.all (fun x=>!listed.getD x.1 true&&((ops[x.1]?).map (fun o=>isAlloc T o.op&&(o.dst==some x.2)&&o.guard.isNone&&(o.after.size==0))).getD false) &&
 (List.range ops.size).all (fun j=>listed.getD j true||rem.any (fun x=>x.1==j)||((ops[j]?).map (fun o=>rem.all (fun x=>o.after.any (fun e=>Region.binds md e&&e.on==x.1)))).getD true)
theorem wpAnyH_allocs_ok {P:Program}{ops:Array Oper}{Q:Exit->Act->World->Prop}{md:Region.Mode}{S:World->Prop}{T:TypeId}{ob:Obj}
 (hrun:∀ (a:Act) (w:World) (o:Oper),o.op=Op.alloc T->(execOp a.eval o).run P w=.ok (.value (.pointer (some ⟨w.heap.size,0,none⟩))) (w.alloc ob))
 (hS:∀ w,S w->S (w.alloc ob)) (fuel n:Nat) (rem:List (Nat×Nat)) (listed:Array Bool) (a:Act) (w:World) (hl:rem.length=n) (hok:allocsOk md T ops listed rem=true)
 (hk:(rem.map Prod.fst).Nodup) (hd:(rem.map Prod.snd).Nodup) (hw:S w)
 (H:∀ f:Nat->Nat,(∀ x,x∈rem->w.heap.size<=f x.1/\f x.1<w.heap.size+n)->(∀ x y,x∈rem->y∈rem->x.1≠y.1->f x.1≠f y.1)->S (allocN ob n w)->wpAnyH P md ops Q S fuel (listsP rem listed) (putsP f rem a) (allocN ob n w)) :
 wpAnyH P md ops Q S (fuel+n) listed a w:=by
 simp only[allocsOk,Bool.and_eq_true,List.all_eq_true] at hok
 obtain⟨k1,k2⟩:=hok
 refine wpAnyH_allocs hrun hS fuel n rem listed a w hl (fun x hx=>?_) (fun j o hj hju hno x hx=>?_) hk hd hw H
 ·have h:=k1 x hx
  cases ho:ops[x.1]? with
  | none=>rw[ho] at h;simp at h
  | some o=>
    rw[ho] at h
    simp only[Option.map_some,Option.getD_some,Bool.and_eq_true,Bool.not_eq_true'] at h
    obtain⟨h1,⟨⟨h2,h3⟩,h4⟩,h5⟩:=h
    refine⟨h1,o,rfl,?_,by simpa using h3,by simpa using h4,by simpa using h5⟩
    unfold isAlloc at h2
    split at h2
    ·rename_i t e;rw[e];congr 1;simpa using h2
    ·cases h2
 ·have hlt:j<ops.size:=(Array.getElem?_eq_some_iff.1 hj).1
  have h:=k2 j (List.mem_range.2 hlt)
  rw[hju,hj] at h
  have hany:rem.any (fun x=>x.1==j)=false:=by
   rw[List.any_eq_false]
   intro y hy
   simpa using hno y hy
  rw[hany] at h
  simp only[Bool.false_or,Option.map_some,Option.getD_some,List.all_eq_true] at h
  have h1:=h x hx
  obtain⟨i,hi,h2⟩:=Array.any_eq_true.1 h1
  simp only[Bool.and_eq_true,beq_iff_eq] at h2
  exact⟨o.after[i],Array.getElem_mem hi,h2.1,h2.2⟩
theorem allocN_below (o:Obj)(n:Nat)(w:World):Below w.heap.size w (allocN o n w):=by
 induction n generalizing w with
 | zero=>exact Below.refl _ _
 | succ n ih=>exact((Below.refl _ w).alloc (Nat.le_refl _) o).trans ((ih (w.alloc o)).mono (by simp))
theorem allocN_box (vs:List Value)(t:TypeId)(n:Nat)(w:World)(m:Nat)(h1:w.heap.size<=m)(h2:m<w.heap.size+n):Box (allocN (.cells vs.toArray t) n w) m vs:=by
 induction n generalizing w with
 | zero=>omega
 | succ n ih=>
   by_cases e:m=w.heap.size
   ·subst e
    exact(Box.new w vs t).next (allocN_below _ n _)
   ·exact ih (w.alloc (.cells vs.toArray t)) (by simp;omega) (by simp;omega)
end Go.Proofs.YtecdfnpbcabdnaaGreatDoor
end
section
namespace Go.Proofs.YtecdfnpbcabdnaaGreatDoor
open Go.RowKit Go.Lib
theorem iatP_of {B z:Nat}{w:World}{v:Value}{l:List It3}(h:IaO B z w v l):IAt z w v (l.map Prod.fst):=by
 obtain⟨h1,h2⟩:=h.own
 rcases h2 with ⟨rfl,h3⟩ | ⟨g,cap,cur,rfl,h3,h4,h5,h6,h7,h8⟩
 ·refine⟨none,0,?_,?_,by decide,.inl ?_⟩
  ·rw[List.length_map,h3]
  ·rw[List.length_map,h3];exact Nat.le_refl _
  ·rw[List.length_map,h3]
 ·have hg:=(Array.getElem?_eq_some_iff.1 h4).1
  refine⟨some ⟨g,0,none⟩,cap,by rw[List.length_map],by rw[List.length_map];exact h5,by unfold maxLen at h6;omega,.inr ⟨g,0,rfl,hg,fun i hi=>?_⟩⟩
  have hi':i<l.length:=by simpa using hi
  have hs:=h.sit _ (List.getElem_mem hi')
  refine⟨l[i].2.1,l[i].2.2,fun q u hu=>?_,?_⟩
  ·have hq:q<19:=by
    have:=(List.getElem?_eq_some_iff.1 hu).1
    simpa using this
   rw[List.getElem_map] at hu
   have h9:(flI l)[i*19+q]? = some u:=(flI_get l i q hq hi').trans hu
   rw[<-h8,List.getElem?_take] at h9
   split at h9
   ·rw[Array.getElem?_toList] at h9
    unfold World.cell?
    simp only[h4]
    simpa using h9
   ·cases h9
  ·rw[List.getElem_map]
   exact⟨SitQ.sits _ _ hs.sx,SitQ.sits _ _ hs.sy,hs.nm,hs.un⟩
theorem alloc_itm (a:Act)(w:World)(o:Oper)(h:o.op=Op.alloc 53):(execOp a.eval o).run Tryz.prog w=.ok (.value (.pointer (some ⟨w.heap.size,0,none⟩))) (w.alloc (.cells zs19.toArray 53)):=by
 simp only[execOp,h]
 kernel_rfl
theorem then_norm {K:Act->World->Prop}{Q:Exit->Act->World->Prop}{a:Act}{w:World}(h:K a w):Exit.then K Q Exit.normal a w:=h
set_option maxHeartbeats 8000000 in
set_option maxRecDepth 20000 in
theorem placedPol_c {z:Nat}(nm:ByteArray)(l:List It)(v v':Value)(w:World)(hs:IAt z w v l)(hs':IAt z w v' l):
 Calls Tryz.prog 9 #[.agg #[.string nm,v],.agg #[.string nm,v']] w fun e w'=>e=.returned (.bool true)/\Below w.heap.size w w':=by
 have HL:=hid2 hs
 have HK:=hid2 hs'
 obtain⟨ad,cap,rfl,hc1,hc2⟩:=hs.shape
 obtain⟨ad',cap',rfl,hc1',hc2'⟩:=hs'.shape
 obtain⟨N,hN⟩:∃ N,Hid (N=l.length):=⟨_,rfl⟩
 rw[<-hN.out] at hc1 hc1' HL HK ⊢
 clear hs hs'
 obtain⟨X0,X1,XB⟩:=two_boxes w 25 25 [.string nm,.slice ad N cap] [.string nm,.slice ad' N cap']
 have BX:=hid2 X0
 have BY:=hid2 X1
 have BB:=hid2 XB
 clear X0 X1 XB
 obtain⟨m,hm⟩:∃ m:Nat,Hid (m=19):=⟨_,rfl⟩
 have zs:∀ w,(sizeOf 53).run Tryz.prog w=.ok m w:=by rw[hm.out];exact Tryz.sizeOf53
 have zm:(19=m)=True:=eq_true hm.out.symm
 go_enter Tryz.func9,Tryz.ntmps9
 go_wp2_with fail
 go_loopw [5] (fun i wr=>∃ j:Nat,i=.int .i64 (j:Nat)/\j<=N/\Hid (Below w.heap.size w wr)/\Hid (Box wr w.heap.size [.string nm,.slice ad N cap])/\Hid (Box wr (w.heap.size+1) [.string nm,.slice ad' N cap'])) (fun i _=>match i with | .int _ p=>((N:Int)-p).toNat | _=>0)
 case atStart=>exact⟨0,rfl,by omega,BB,BX,BY⟩
 case round=>
  obtain⟨j,rfl,hj,HB,HX,HY⟩:=hrel
  have x1:=HX.out.cell 1 _ rfl
  have y1:=HY.out.cell 1 _ rfl
  have lx:=HX.out.lt
  have ly:=HY.out.lt
  by_cases hlt:j<N
  ·have hlt':(j:Int)<(N:Int):=by omega
   have h1:j<l.length:=by rw[<-hN.out];exact hlt
   obtain⟨b,off,c1,hv,-,-,hbl,hx⟩:=HL.out.open (by omega)
   rw[<-hN.out] at hv
   simp only[Value.slice.injEq] at hv
   obtain⟨rfl,-,rfl⟩:=hv
   obtain⟨b',off',c1',hv',-,-,hbl',hx'⟩:=HK.out.open (by omega)
   rw[<-hN.out] at hv'
   simp only[Value.slice.injEq] at hv'
   obtain⟨rfl,-,rfl⟩:=hv'
   obtain⟨vx,vy,hcs,hit⟩:=hx j h1
   obtain⟨vx',vy',hcs',hit'⟩:=hx' j h1
   have lb:b<wr.heap.size:=Nat.lt_of_lt_of_le hbl HB.out.size
   have lb':b'<wr.heap.size:=Nat.lt_of_lt_of_le hbl' HB.out.size
   obtain⟨X,hX⟩:∃ X:Array Value,Hid (X=(itC l[j] vx vy).toArray):=⟨_,hid2 rfl⟩
   obtain⟨Y,hY⟩:∃ Y:Array Value,Hid (Y=(itC l[j] vx' vy').toArray):=⟨_,hid2 rfl⟩
   have s1:X.size=19:=by rw[hX.out];rfl
   have s2:Y.size=19:=by rw[hY.out];rfl
   have LA:=hid2 (fun wx (hb:Below w.heap.size w wx)=>ld_at (w:=wx) (b:=b) (o:=off+j*m) (fun q u hu=>by rw[hm.out];exact(hb.cell (p:=⟨b,off+j*19+q,none⟩) hbl).trans (hcs q u hu)) hX.out (hm.out.trans (show 19=_ from rfl)))
   have LB:=hid2 (fun wx (hb:Below w.heap.size w wx)=>ld_at (w:=wx) (b:=b') (o:=off'+j*m) (fun q u hu=>by rw[hm.out];exact(hb.cell (p:=⟨b',off'+j*19+q,none⟩) hbl').trans (hcs' q u hu)) hY.out (hm.out.trans (show 19=_ from rfl)))
   have HT:=hid2 hit
   have HT':=hid2 hit'
   clear hcs hcs' hx hx' hit hit'
   go_wp2_with fail
   refine wp_region_noPanic ?_
   refine wp_region_held_drew (S:=fun wq=>Below wr.heap.size wr wq) (by kernel_rfl) ((Below.refl _ wr).drew) (fun hHeld=>?_)
   refine wpAnyH_take (i:=0) (oi:={dst:=some 29,op:=Op.fieldAddr 25 (Operand.tmp 2) 1,type:=0,pos := "ref.go:405",after:=#[],guard:=none}) (v:=?_) rfl (by kernel_rfl) (by kernel_rfl) (by kernel_rfl) (fun _ _ _ h=>h) (Or.inl ⟨by rfl,?_⟩) hHeld ?_
   rotate_left
   ·intro wq hq
    have q1:=(hq.cell (p:=⟨w.heap.size,1,none⟩) lx).trans x1
    have q2:=(hq.cell (p:=⟨w.heap.size+1,1,none⟩) ly).trans y1
    have q3:=LA.out wq (below_on HB.out hq HB.out.size)
    have q4:=LB.out wq (below_on HB.out hq HB.out.size)
    have q5:=Nat.lt_of_lt_of_le lx hq.size
    have q6:=Nat.lt_of_lt_of_le ly hq.size
    clear hq
    go_simp
    all_goals with_reducible rfl
   simp only[Act.put,List.setIfInBounds_toArray,List.set_cons_zero,List.set_cons_succ] -- take
   refine wpAnyH_take (i:=1) (oi:={dst:=some 30,op:=Op.load 23 (Operand.tmp 29),type:=23,pos := "ref.go:405",after:=#[{on:=0,ground:=Ground.data}],guard:=none}) (v:=?_) rfl (by kernel_rfl) (by kernel_rfl) (by kernel_rfl) (fun _ _ _ h=>h) (Or.inl ⟨by rfl,?_⟩) hHeld ?_
   rotate_left
   ·intro wq hq
    have q1:=(hq.cell (p:=⟨w.heap.size,1,none⟩) lx).trans x1
    have q2:=(hq.cell (p:=⟨w.heap.size+1,1,none⟩) ly).trans y1
    have q3:=LA.out wq (below_on HB.out hq HB.out.size)
    have q4:=LB.out wq (below_on HB.out hq HB.out.size)
    have q5:=Nat.lt_of_lt_of_le lx hq.size
    have q6:=Nat.lt_of_lt_of_le ly hq.size
    clear hq
    go_simp
    all_goals with_reducible rfl
   simp only[Act.put,List.setIfInBounds_toArray,List.set_cons_zero,List.set_cons_succ] -- take
   refine wpAnyH_take (i:=2) (oi:={dst:=some 31,op:=Op.move (Operand.tmp 5),type:=3,pos := "ref.go:405",after:=#[],guard:=none}) (v:=?_) rfl (by kernel_rfl) (by kernel_rfl) (by kernel_rfl) (fun _ _ _ h=>h) (Or.inl ⟨by rfl,?_⟩) hHeld ?_
   rotate_left
   ·intro wq hq
    have q1:=(hq.cell (p:=⟨w.heap.size,1,none⟩) lx).trans x1
    have q2:=(hq.cell (p:=⟨w.heap.size+1,1,none⟩) ly).trans y1
    have q3:=LA.out wq (below_on HB.out hq HB.out.size)
    have q4:=LB.out wq (below_on HB.out hq HB.out.size)
    have q5:=Nat.lt_of_lt_of_le lx hq.size
    have q6:=Nat.lt_of_lt_of_le ly hq.size
    clear hq
    go_simp
    all_goals with_reducible rfl
   simp only[Act.put,List.setIfInBounds_toArray,List.set_cons_zero,List.set_cons_succ] -- take
   refine wpAnyH_take (i:=3) (oi:={dst:=some 32,op:=Op.indexAddr 23 (Operand.tmp 30) (Operand.tmp 31),type:=0,pos := "ref.go:405",after:=#[{on:=1,ground:=Ground.data},{on:=2,ground:=Ground.data}],guard:=none}) (v:=?_) rfl (by kernel_rfl) (by kernel_rfl) (by kernel_rfl) (fun _ _ _ h=>h) (Or.inl ⟨by rfl,?_⟩) hHeld ?_
   rotate_left
   ·intro wq hq
    have q1:=(hq.cell (p:=⟨w.heap.size,1,none⟩) lx).trans x1
    have q2:=(hq.cell (p:=⟨w.heap.size+1,1,none⟩) ly).trans y1
    have q3:=LA.out wq (below_on HB.out hq HB.out.size)
    have q4:=LB.out wq (below_on HB.out hq HB.out.size)
    have q5:=Nat.lt_of_lt_of_le lx hq.size
    have q6:=Nat.lt_of_lt_of_le ly hq.size
    clear hq
    go_simp
    all_goals with_reducible rfl
   simp only[Act.put,List.setIfInBounds_toArray,List.set_cons_zero,List.set_cons_succ] -- take
   refine wpAnyH_take (i:=4) (oi:={dst:=some 33,op:=Op.load 53 (Operand.tmp 32),type:=53,pos := "ref.go:405",after:=#[{on:=3,ground:=Ground.data}],guard:=none}) (v:=?_) rfl (by kernel_rfl) (by kernel_rfl) (by kernel_rfl) (fun _ _ _ h=>h) (Or.inl ⟨by rfl,?_⟩) hHeld ?_
   rotate_left
   ·intro wq hq
    have q1:=(hq.cell (p:=⟨w.heap.size,1,none⟩) lx).trans x1
    have q2:=(hq.cell (p:=⟨w.heap.size+1,1,none⟩) ly).trans y1
    have q3:=LA.out wq (below_on HB.out hq HB.out.size)
    have q4:=LB.out wq (below_on HB.out hq HB.out.size)
    have q5:=Nat.lt_of_lt_of_le lx hq.size
    have q6:=Nat.lt_of_lt_of_le ly hq.size
    clear hq
    go_simp
    all_goals with_reducible rfl
   simp only[Act.put,List.setIfInBounds_toArray,List.set_cons_zero,List.set_cons_succ] -- take
   refine wpAnyH_take (i:=5) (oi:={dst:=some 34,op:=Op.fieldAddr 25 (Operand.tmp 3) 1,type:=0,pos := "ref.go:405",after:=#[{on:=12,ground:=Ground.gcOnly Departure.lateStores}],guard:=none}) (v:=?_) rfl (by kernel_rfl) (by kernel_rfl) (by kernel_rfl) (fun _ _ _ h=>h) (Or.inl ⟨by rfl,?_⟩) hHeld ?_
   rotate_left
   ·intro wq hq
    have q1:=(hq.cell (p:=⟨w.heap.size,1,none⟩) lx).trans x1
    have q2:=(hq.cell (p:=⟨w.heap.size+1,1,none⟩) ly).trans y1
    have q3:=LA.out wq (below_on HB.out hq HB.out.size)
    have q4:=LB.out wq (below_on HB.out hq HB.out.size)
    have q5:=Nat.lt_of_lt_of_le lx hq.size
    have q6:=Nat.lt_of_lt_of_le ly hq.size
    clear hq
    go_simp
    all_goals with_reducible rfl
   simp only[Act.put,List.setIfInBounds_toArray,List.set_cons_zero,List.set_cons_succ] -- take
   refine wpAnyH_take (i:=6) (oi:={dst:=some 35,op:=Op.load 23 (Operand.tmp 34),type:=23,pos := "ref.go:405",after:=#[{on:=5,ground:=Ground.data},{on:=12,ground:=Ground.gcOnly Departure.lateStores}],guard:=none}) (v:=?_) rfl (by kernel_rfl) (by kernel_rfl) (by kernel_rfl) (fun _ _ _ h=>h) (Or.inl ⟨by rfl,?_⟩) hHeld ?_
   rotate_left
   ·intro wq hq
    have q1:=(hq.cell (p:=⟨w.heap.size,1,none⟩) lx).trans x1
    have q2:=(hq.cell (p:=⟨w.heap.size+1,1,none⟩) ly).trans y1
    have q3:=LA.out wq (below_on HB.out hq HB.out.size)
    have q4:=LB.out wq (below_on HB.out hq HB.out.size)
    have q5:=Nat.lt_of_lt_of_le lx hq.size
    have q6:=Nat.lt_of_lt_of_le ly hq.size
    clear hq
    go_simp
    all_goals with_reducible rfl
   simp only[Act.put,List.setIfInBounds_toArray,List.set_cons_zero,List.set_cons_succ] -- take
   refine wpAnyH_take (i:=7) (oi:={dst:=some 36,op:=Op.move (Operand.tmp 5),type:=3,pos := "ref.go:405",after:=#[{on:=12,ground:=Ground.gcOnly Departure.lateStores}],guard:=none}) (v:=?_) rfl (by kernel_rfl) (by kernel_rfl) (by kernel_rfl) (fun _ _ _ h=>h) (Or.inl ⟨by rfl,?_⟩) hHeld ?_
   rotate_left
   ·intro wq hq
    have q1:=(hq.cell (p:=⟨w.heap.size,1,none⟩) lx).trans x1
    have q2:=(hq.cell (p:=⟨w.heap.size+1,1,none⟩) ly).trans y1
    have q3:=LA.out wq (below_on HB.out hq HB.out.size)
    have q4:=LB.out wq (below_on HB.out hq HB.out.size)
    have q5:=Nat.lt_of_lt_of_le lx hq.size
    have q6:=Nat.lt_of_lt_of_le ly hq.size
    clear hq
    go_simp
    all_goals with_reducible rfl
   simp only[Act.put,List.setIfInBounds_toArray,List.set_cons_zero,List.set_cons_succ] -- take
   refine wpAnyH_take (i:=8) (oi:={dst:=some 37,op:=Op.indexAddr 23 (Operand.tmp 35) (Operand.tmp 36),type:=0,pos := "ref.go:405",after:=#[{on:=6,ground:=Ground.data},{on:=7,ground:=Ground.data},{on:=12,ground:=Ground.gcOnly Departure.lateStores}],guard:=none}) (v:=?_) rfl (by kernel_rfl) (by kernel_rfl) (by kernel_rfl) (fun _ _ _ h=>h) (Or.inl ⟨by rfl,?_⟩) hHeld ?_
   rotate_left
   ·intro wq hq
    have q1:=(hq.cell (p:=⟨w.heap.size,1,none⟩) lx).trans x1
    have q2:=(hq.cell (p:=⟨w.heap.size+1,1,none⟩) ly).trans y1
    have q3:=LA.out wq (below_on HB.out hq HB.out.size)
    have q4:=LB.out wq (below_on HB.out hq HB.out.size)
    have q5:=Nat.lt_of_lt_of_le lx hq.size
    have q6:=Nat.lt_of_lt_of_le ly hq.size
    clear hq
    go_simp
    all_goals with_reducible rfl
   simp only[Act.put,List.setIfInBounds_toArray,List.set_cons_zero,List.set_cons_succ] -- take
   refine wpAnyH_take (i:=9) (oi:={dst:=some 38,op:=Op.load 53 (Operand.tmp 37),type:=53,pos := "ref.go:405",after:=#[{on:=8,ground:=Ground.data},{on:=12,ground:=Ground.gcOnly Departure.lateStores}],guard:=none}) (v:=?_) rfl (by kernel_rfl) (by kernel_rfl) (by kernel_rfl) (fun _ _ _ h=>h) (Or.inl ⟨by rfl,?_⟩) hHeld ?_
   rotate_left
   ·intro wq hq
    have q1:=(hq.cell (p:=⟨w.heap.size,1,none⟩) lx).trans x1
    have q2:=(hq.cell (p:=⟨w.heap.size+1,1,none⟩) ly).trans y1
    have q3:=LA.out wq (below_on HB.out hq HB.out.size)
    have q4:=LB.out wq (below_on HB.out hq HB.out.size)
    have q5:=Nat.lt_of_lt_of_le lx hq.size
    have q6:=Nat.lt_of_lt_of_le ly hq.size
    clear hq
    go_simp
    all_goals with_reducible rfl
   simp only[Act.put,List.setIfInBounds_toArray,List.set_cons_zero,List.set_cons_succ] -- take
   refine wpAnyH_allocs_ok (T:=53) (ob:=.cells zs19.toArray 53) alloc_itm (fun w h=>h.alloc h.size _) 2 2 [(10,6),(11,7)] _ _ _ rfl (by kernel_rfl) (by decide) (by decide) hHeld (fun ff r1 r2 hS6=>?_)
   have B0:=allocN_box zs19 53 2 wr.drew
   generalize allocN (.cells zs19.toArray 53) 2 wr.drew=W6 at *
   simp only[putsP,listsP,List.foldl_cons,List.foldl_nil,Act.put,List.setIfInBounds_toArray,List.set_cons_zero,List.set_cons_succ]
   obtain⟨n0,hn0⟩:∃ n,n=ff 10:=⟨_,rfl⟩
   have rb0:=r1 (10,6) (by simp)
   have bx0:=B0 (ff 10) rb0.1 rb0.2
   obtain⟨n1,hn1⟩:∃ n,n=ff 11:=⟨_,rfl⟩
   have rb1:=r1 (11,7) (by simp)
   have bx1:=B0 (ff 11) rb1.1 rb1.2
   have d01:=r2 (10,6) (11,7) (by simp) (by simp) (by decide)
   rw[<-hn0,<-hn1]
   rw[<-hn0] at rb0 bx0 d01
   rw[<-hn1] at rb1 bx1 d01
   have hszr:wr.drew.heap.size=wr.heap.size:=rfl
   have wb0:wr.heap.size<=n0:=by omega
   have wb1:wr.heap.size<=n1:=by omega
   have one1:∀ v∈X.toList,v.oneCell'=true:=fun v hv=>Array.all_eq_true_iff_forall_mem.1 (show X.all (·.oneCell')=true by rw[hX.out];exact itC_one HT.out) v (by simpa using hv)
   have one2:∀ v∈Y.toList,v.oneCell'=true:=fun v hv=>Array.all_eq_true_iff_forall_mem.1 (show Y.all (·.oneCell')=true by rw[hY.out];exact itC_one HT'.out) v (by simpa using hv)
   have stX:=st_at n0 X.toList 0 W6 _ bx0 (by simp[s1]) one1
   have TX:=putRow_turn n0 X.toList 0 W6
   have BXX:=putRow_whole bx0 (X:=X.toList) (by simp[s1])
   have BXY:=bx1.turn TX (by simp;omega)
   have hS7:Below wr.heap.size wr (putRow W6 n0 0 X.toList):=below_turned hS6 TX wb0 hS6.size
   clear B0 r1 r2 hHeld hn0 hn1 x1 y1
   generalize hW7:putRow W6 n0 0 X.toList=W7 at *
   clear hW7
   refine wpAnyH_ready (rs:=[12]) (by kernel_rfl) (by simp) (AllReadyH.cons (o:={dst:=none,op:=Op.store 53 (Operand.tmp 6) (Operand.tmp 33),type:=0,pos := "ref.go:405",after:=#[{on:=10,ground:=Ground.data},{on:=4,ground:=Ground.data},{on:=0,ground:=Ground.phase},{on:=1,ground:=Ground.phase},{on:=2,ground:=Ground.phase},{on:=3,ground:=Ground.phase},{on:=4,ground:=Ground.phase},{on:=5,ground:=Ground.textOnly Departure.lateStores},{on:=6,ground:=Ground.textOnly Departure.lateStores},{on:=7,ground:=Ground.textOnly Departure.lateStores},{on:=8,ground:=Ground.textOnly Departure.lateStores},{on:=9,ground:=Ground.textOnly Departure.lateStores},{on:=10,ground:=Ground.phase},{on:=11,ground:=Ground.phase}],guard:=none}) rfl (fun K hK=>?_) AllReadyH.nil)
   go_simp
   refine hK.out _ _ hS7 (fun hHeld=>?_)
   clear hK stX TX
   have stY:=st_at n1 Y.toList 0 W7 _ BXY (by simp[s2]) one2
   have TY:=putRow_turn n1 Y.toList 0 W7
   have BYY:=putRow_whole BXY (X:=Y.toList) (by simp[s2])
   have BYX:=BXX.turn TY (by simp;omega)
   have hS8:Below wr.heap.size wr (putRow W7 n1 0 Y.toList):=below_turned hS7 TY wb1 hS7.size
   generalize hW8:putRow W7 n1 0 Y.toList=W8 at *
   clear hW8
   refine wpAnyH_ready (rs:=[13]) (by kernel_rfl) (by simp) (AllReadyH.cons (o:={dst:=none,op:=Op.store 53 (Operand.tmp 7) (Operand.tmp 38),type:=0,pos := "ref.go:405",after:=#[{on:=11,ground:=Ground.data},{on:=9,ground:=Ground.data},{on:=12,ground:=Ground.chain},{on:=0,ground:=Ground.phase},{on:=1,ground:=Ground.phase},{on:=2,ground:=Ground.phase},{on:=3,ground:=Ground.phase},{on:=4,ground:=Ground.phase},{on:=5,ground:=Ground.phase},{on:=6,ground:=Ground.phase},{on:=7,ground:=Ground.phase},{on:=8,ground:=Ground.phase},{on:=9,ground:=Ground.phase},{on:=10,ground:=Ground.phase},{on:=11,ground:=Ground.phase},{on:=12,ground:=Ground.phase}],guard:=none}) rfl (fun K hK=>?_) AllReadyH.nil)
   go_simp
   refine hK.out _ _ hS8 (fun hHeld=>?_)
   clear hK stY TY
   refine wpAnyH_done (by kernel_rfl) ?_ 0
   refine NoPanic.normal ?_
   refine then_norm ?_
   have BX8:Box W8 n0 (itC l[j] vx vy):=by have h:=BYX;rw[hX.out] at h;simpa using h
   have BY8:Box W8 n1 (itC l[j] vx' vy'):=by have h:=BYY;rw[hY.out] at h;simpa using h
   have B8:=hid2 (below_on HB.out hS8 HB.out.size)
   have HX8:=hid2 (HX.out.next hS8)
   have HY8:=hid2 (HY.out.next hS8)
   have HPx:=hid2 (fun W (hb:Below w.heap.size w W)=>placed_all (z:=z) l[j].x vx vx' W (HT.out.sx.next hb) (HT'.out.sx.next hb))
   have HPy:=hid2 (fun W (hb:Below w.heap.size w W)=>placed_all (z:=z) l[j].y vy vy' W (HT.out.sy.next hb) (HT'.out.sy.next hb))
   obtain⟨a1,k1,rfl,-,-⟩:=HT.out.sx.parts.shape
   obtain⟨a2,k2,rfl,-,-⟩:=HT.out.sy.parts.shape
   obtain⟨a3,k3,rfl,-,-⟩:=HT'.out.sx.parts.shape
   obtain⟨a4,k4,rfl,-,-⟩:=HT'.out.sy.parts.shape
   clear BYX BYY BXX BXY hHeld hS6 hS7 hS8 bx0 bx1 rb0 rb1 one1 one2 s1 s2 hX hY LA LB HT HT' HB HX HY lb lb' hbl hbl'
   generalize l[j]=i at *
   clear h1
   have B0x:=hid2 BX8
   have B0y:=hid2 BY8
   have e0:=BX8.cell 0 _ rfl
   have e1:=BX8.cell 1 _ rfl
   have e2:=BX8.cell 2 _ rfl
   have e3:=BX8.cell 3 _ rfl
   have e4:=BX8.cell 4 _ rfl
   have e5:=BX8.cell 5 _ rfl
   have e18:=BX8.cell 18 _ rfl
   have g0:=BY8.cell 0 _ rfl
   have g1:=BY8.cell 1 _ rfl
   have g2:=BY8.cell 2 _ rfl
   have g3:=BY8.cell 3 _ rfl
   have g4:=BY8.cell 4 _ rfl
   have g5:=BY8.cell 5 _ rfl
   have g18:=BY8.cell 18 _ rfl
   obtain⟨p6,p7,p8,p9,p10,p11,_,_,_,_,_,_⟩:=BX8.cells_at 6 _ _ _ _ _ _ rfl rfl rfl rfl rfl rfl
   obtain⟨q6,q7,q8,q9,q10,q11,_,_,_,_,_,_⟩:=BY8.cells_at 6 _ _ _ _ _ _ rfl rfl rfl rfl rfl rfl
   have l0:=BX8.lt
   have l1:=BY8.lt
   clear BX8 BY8
   simp only[tmV] at HPx HPy
   go_wp2_with fail
   refine Calls.mono (HPx.out _ B8.out) ?_
   rintro e W9 ⟨rfl,b9⟩
   have BX9:=B0x.out.next b9
   have BY9:=B0y.out.next b9
   have B9:=hid2 (below_on B8.out b9 B8.out.size)
   have HX9:=hid2 (HX8.out.next b9)
   have HY9:=hid2 (HY8.out.next b9)
   clear e0 e1 e2 e3 e4 e5 e18 g0 g1 g2 g3 g4 g5 g18 p6 p7 p8 p9 p10 p11 q6 q7 q8 q9 q10 q11 l0 l1 b9 B0x B0y B8 HX8 HY8 HPx
   obtain⟨p6,p7,p8,p9,p10,p11,_,_,_,_,_,_⟩:=BX9.cells_at 12 _ _ _ _ _ _ rfl rfl rfl rfl rfl rfl
   obtain⟨q6,q7,q8,q9,q10,q11,_,_,_,_,_,_⟩:=BY9.cells_at 12 _ _ _ _ _ _ rfl rfl rfl rfl rfl rfl
   have l0:=BX9.lt
   have l1:=BY9.lt
   clear BX9 BY9
   go_wp2_with fail
   refine Calls.mono (HPy.out _ B9.out) ?_
   rintro e W10 ⟨rfl,b10⟩
   have B10:=hid2 (below_on B9.out b10 B9.out.size)
   have HX10:=hid2 (HX9.out.next b10)
   have HY10:=hid2 (HY9.out.next b10)
   clear p6 p7 p8 p9 p10 p11 q6 q7 q8 q9 q10 q11 l0 l1 b10 B9 HX9 HY9 HPy
   go_wp2_with fail
   go_roundw
   case rel=>exact⟨j+1,by go_num,by omega,B10,HX10,HY10⟩
   case measure=>simp;omega
  ·have hlt':¬(j:Int)<(N:Int):=by omega
   go_wp2_with fail
   go_ret
   exact⟨rfl,HB.out⟩
end Go.Proofs.YtecdfnpbcabdnaaGreatDoor
end

import Derived.Test.YtbddbnjhmdbkbaaGreatDoorMhS
import Derived.Test.YtbddbnjhmdbkbaaGreatDoorMpA
import Derived.Test.YtbddbnjhmdbkbaaGreatDoorMhT
import Derived.Deep.DeepAppendWide
namespace Go.Proofs.YtbddbnjhmdbkbaaGreatDoor
open Go.RowKit
theorem b2l {P Q:Pr->Bool}(h:∀ x,Q x=true->P x=true)(Y Z:List Pr):(Y.dropWhile Q++Z).dropWhile P=(Y++Z).dropWhile P:=by
 induction Y with
 | nil=>rfl
 | cons y Y ih=>
   by_cases hq:Q y=true
   ·rw[List.dropWhile_cons_of_pos hq,ih,List.cons_append,List.dropWhile_cons_of_pos (h y hq)]
   ·rw[List.dropWhile_cons_of_neg hq]
theorem a5C {span t t':Int}(h:t<=t')(Y Z:List Pr):a0F span t' (a0F span t Y++Z)=a0F span t' (Y++Z):=
 b2l (fun x hx=>by simp at hx ⊢;omega) Y Z
def a1a (A:List Pr):List Pr:=A.drop (A.length-4096)
theorem a6l (A:List Pr):(a1a A).length=min A.length 4096:=by simp[a1a];omega
def b5f (A:List Pr):Prop:=A.Pairwise (fun x y=>x.1<=y.1)
theorem a8I {span t:Int}{X:List Pr}(h:b5f X):X.filter (fun s=>decide (t-s.1<span))=a0F span t X:=by
 induction X with
 | nil=>rfl
 | cons x X ih=>
   obtain⟨h1,h2⟩:=List.pairwise_cons.1 h
   by_cases hx:span<=t-x.1
   ·have e:a0F span t (x::X)=a0F span t X:=by unfold a0F;exact List.dropWhile_cons_of_pos (by simpa using hx)
    rw[e,<-ih h2,List.filter_cons_of_neg (by simp;omega)]
   ·have e:a0F span t (x::X)=x::X:=by unfold a0F;exact List.dropWhile_cons_of_neg (by simpa using hx)
    rw[e]
    apply List.filter_eq_self.2
    intro y hy
    rcases List.mem_cons.1 hy with rfl | hy
    ·simp;omega
    ·have:=h1 y hy;simp;omega
theorem a8G {span t:Int}{A:List Pr}(h:b5f A):a3A span t A=a0F span t (a1a A):=a8I (h.drop (i:=A.length-4096))
theorem b4f (span t:Int)(X:List Pr):(a0F span t X).length<=X.length:=(List.dropWhile_sublist _).length_le
theorem a9B (A:List Pr)(s:Pr):a1a (A++[s])=(if A.length<4096 then a1a A else (a1a A).tail)++[s]:=by
 unfold a1a
 by_cases h:A.length<4096
 ·rw[if_pos h,show (A++[s]).length-4096=0 by simp;omega,show A.length-4096=0 by omega]
  rfl
 ·have e:(A++[s]).length-4096=A.length-4096+1:=by simp only[List.length_append,List.length_singleton];omega
  rw[if_neg h,e,List.drop_append_of_le_length (by omega),List.tail_drop]
theorem a6Y {span t t':Int}{A:List Pr}{s:Pr}(ht:t<=t')(hs:1<=span):a0F span t' (a1e (a0F span t (a1a A)) s)=a0F span t' (a1a (A++[s])):=by
 have _:=hs
 have hl:=b4f span t (a1a A)
 have hn:=a6l A
 rw[a9B]
 by_cases hf:(a0F span t (a1a A)).length=4096
 ·have hsub:(a0F span t (a1a A)).Sublist (a1a A):=List.dropWhile_sublist _
  have e:a0F span t (a1a A)=a1a A:=hsub.eq_of_length (by omega)
  rw[a1e,if_pos hf,e,if_neg (by omega)]
 ·rw[a1e,if_neg hf]
  by_cases hA:A.length<4096
  ·rw[if_pos hA];exact a5C ht _ _
  ·rw[if_neg hA]
   have e:a0F span t (a1a A)=a0F span t (a1a A).tail:=by
    cases hX:a1a A with
    | nil=>rfl
    | cons x X=>
      rw[hX] at hf hn
      by_cases hx:span<=t-x.1
      ·unfold a0F;exact List.dropWhile_cons_of_pos (by simpa using hx)
      ·have e2:a0F span t (x::X)=x::X:=by unfold a0F;exact List.dropWhile_cons_of_neg (by simpa using hx)
       rw[e2] at hf
       omega
   rw[e]
   exact a5C ht _ _
theorem a4B {span:Int}(hs:1<=span):∀ (n:Nat) (X:List Pr) (t:Int),X.length=n->(X.Pairwise fun x y=>x.1<=y.1)->(∀ x,x∈X->x.1<=t)->a0F span t (a3C span X)=a0F span t (a1a X)
 | 0,X,t,hn,_,_=>by rw[List.eq_nil_of_length_eq_zero hn];rfl
 | n+1,X,t,hn,ho,hl=>by
   obtain⟨Y,s,rfl⟩:∃ Y s,X=Y++[s]:=⟨X.dropLast,X.getLast (by intro e;rw[e] at hn;cases hn),(List.dropLast_concat_getLast _).symm⟩
   obtain⟨h1,-,h3⟩:=List.pairwise_append.1 ho
   rw[a5Y,a4B hs n Y s.1 (by simpa using hn) h1 (fun x hx=>h3 x hx s (by simp))]
   exact a6Y (hl s (by simp)) hs
theorem a8y (A:List Pr):a1a (a1a A)=a1a A:=by
 have h:=a6l A
 unfold a1a at h ⊢
 rw[show (A.drop (A.length-4096)).length-4096=0 by omega,List.drop_zero]
theorem b2P {f:Nat->List Pr}{t:Int}{x:WiP}(hs:1<=x.s)(hu:Ups t (f x.m.toNat)):a1D f t x=a0A x.a x.p (a0Z (a3A x.s t (f x.m.toNat))):=by
 unfold a1D
 have hd:Ups t (b5p (f x.m.toNat)):=b0l hu _
 rw[a4B hs _ _ t rfl hd.ord (fun y hy=>(hd.le y hy).1),a8G hu.ord]
 show a0A x.a x.p (a0Z (a0F x.s t (a1a (a1a (f x.m.toNat)))))=_
 rw[a8y]
theorem b1y {w:World}{B:Nat}{u:Value}{l:List Pr}(h:w.ownsRow B 78 2 u l.length (flS l)):RdP w u l:=by
 obtain⟨ad,cap,rfl,h1,h2,h3⟩:=a6e h
 refine⟨ad,cap,rfl,?_⟩
 rcases h3 with h | ⟨g,off,e,hl,hc⟩
 ·exact .inl (List.eq_nil_of_length_eq_zero h)
 ·refine .inr ⟨g,off,e,hl,fun i x hx=>?_⟩
  obtain⟨hi,e1⟩:=List.getElem?_eq_some_iff.1 hx
  have e2:l.getD i (0,0)=x:=by simp[List.getD,hx]
  have q0:=hc i hi 0 (.int .i64 x.1) (by dsimp only;rw[e2];rfl)
  have q1:=hc i hi 1 (.int .i64 x.2) (by dsimp only;rw[e2];rfl)
  exact⟨by simpa using q0,q1⟩
set_option maxHeartbeats 4000000 in
set_option maxRecDepth 20000 in
theorem b1B (j:Nat)(l:List EvP)(u:Value)(w:World)(hE:a4A w u l)(hL:l.length*32<=140737488355328):
 Calls Tryz.prog 60 #[u,.int .i64 (j:Nat)] w fun r w'=>∃ ad c,r=.returned (.slice ad (a1d l j).length c)/\RdP w' (.slice ad (a1d l j).length c) (a1d l j)/\Below w.heap.size w w':=by
 obtain⟨ad,cap,rfl,hle,hcap,hp⟩:=hE
 obtain⟨N,hNn⟩:∃ N,Hid (N=l.length):=⟨_,rfl⟩
 rw[<-hNn.out] at hL hle hp ⊢
 have HP:=a0a hp
 obtain⟨i0,hi,hz0,hz1,hz2⟩:=b0I
 clear hp
 go_enter Tryz.func60,Tryz.ntmps60
 go_wp2_with fail
 go_loopw [5,6] (fun o i wr=>∃ (k:Nat),i=.int .i64 (k:Nat)/\k<=N/\Hid (wr.ownsRow w.heap.size 78 2 o (a1d (l.take k) j).length (flS (a1d (l.take k) j)))/\Hid (Below w.heap.size w wr)) (fun _ i _=>match i with | .int _ z=>((N:Int)-z).toNat | _=>0)
 case atStart=>exact⟨0,rfl,by omega,World.ownsRow_nil _ _ _ _,a0a (ZD _ _)⟩
 case round=>
  obtain⟨k,rfl,hk,HO,HBr⟩:=hrel
  obtain⟨oa,oc,rfl⟩:=a1i HO.out
  by_cases hlt:k<N
  ·have hlt':(k:Int)<(N:Int):=by omega
   have hl1:k<l.length:=by rw[<-hNn.out];exact hlt
   obtain⟨b,off,e,hbl,hx⟩:∃ b off,ad=some ⟨b,off,none⟩/\b<w.heap.size/\∀ i,i<N->∀ j x,(a3O (l.getD i ev0))[j]? = some x->w.cell? ⟨b,off+i*4+j,none⟩=some x:=by
    rcases HP.out with h | h
    ·omega
    ·exact h
   subst e
   have hgd:l.getD k ev0=l[k]:=by simp[List.getD,hl1]
   have c0:=hx k hlt 0 _ rfl
   have c1:=hx k hlt 1 _ rfl
   have c2:=hx k hlt 2 _ rfl
   have c3:=hx k hlt 3 _ rfl
   rw[hgd] at c0 c1 c2 c3
   rw[Nat.add_zero] at c0
   have y0:=a0c HBr.out c0
   have y1:=a0c HBr.out c1
   have y2:=a0c HBr.out c2
   have y3:=a0c HBr.out c3
   have lb:b<wr.heap.size:=ZA hbl HBr.out.size
   have HTs:Hid (a1d (l.take (k+1)) j=if l[k].kind=1/\l[k].id=(j:Int) then a1d (l.take k) j++[(l[k].time,l[k].val)] else a1d (l.take k) j):=a0a (by rw[List.take_succ_eq_append_getElem hl1,a3T])
   have HKl:Hid ((a1d (l.take k) j).length<=k):=a0a (ZC (a6Q _ _) (by rw[List.length_take];omega))
   generalize l[k]=e at *
   clear hx hgd c0 c1
   by_cases hk1:e.kind=1
   ·by_cases hk2:e.id=(j:Int)
    ·have q1:Hid (a1d (l.take (k+1)) j=a1d (l.take k) j++[(e.time,e.val)]):=a0a (by rw[HTs.out,if_pos ⟨hk1,hk2⟩])
     have hkl:=HKl.out
     have hwz:=HBr.out.size
     have HOa:Hid ((wr.alloc (.cells (smL (e.time,e.val)).toArray 78)).drew.ownsRow w.heap.size 78 2 (.slice oa (a1d (l.take k) j).length oc) (a1d (l.take k) j).length (flS (a1d (l.take k) j))):=a0a (HO.out.alloc _)
     have HNw:Hid (∀ j u,(smL (e.time,e.val))[j]? = some u->((wr.alloc (.cells (smL (e.time,e.val)).toArray 78)).drew).cell? ((⟨wr.heap.size,0,none⟩:Addr).add j)=some u):=a0a (a2R wr (smL (e.time,e.val)) 78 _ rfl)
     have HGr:Hid (∀ w3,(wr.alloc (.cells (smL (e.time,e.val)).toArray 78)).drew.grownBy w3 (Value.slice oa (a1d (l.take k) j).length oc).ownBlock->Below w.heap.size w w3):=a0a (fun w3 hg3=>by
      have t:=HBr.out
      have al:=(ZD wr.heap.size wr).alloc (ZB _) (.cells (smL (e.time,e.val)).toArray 78)
      exact⟨hg3.os.trans (al.os.trans t.os),hg3.tape.trans (al.tape.trans t.tape),hg3.output.trans (al.output.trans t.output),ZC t.size (ZC al.size hg3.size),fun q hq=>(hg3.block q (ZA (ZA hq t.size) al.size) (fun e2=>by have:=(a0t HO.out e2.symm).1;omega)).trans ((al.block q (ZA hq t.size)).trans (t.block q hq))⟩)
     obtain⟨L,hLe⟩:∃ L,Hid (L=(a1d (l.take k) j).length):=⟨_,rfl⟩
     rw[<-hLe.out] at HOa HGr hkl ⊢
     go_wp2_with fail
     go_region_held3 (fun w'=>w'.cell? ⟨b,off+k*4+2,none⟩=some (.int .i64 e.val)/\w'.cell? ⟨b,off+k*4+3,none⟩=some (.int .i64 e.time)) (simp[go_sem, *]) (first|(refine step_append_lies _ rfl (.tmp 28) (.tmp 40) 76 rfl w.heap.size 78 i0 (.agg #[.int .i64 0,.int .i64 0]) 2 16 Tryz.underlying76 hi hz0 hz1 hz2 rfl (by decide) (.slice oa L oc) L (flS (a1d (l.take k) j)) (by simp[Act.eval]) (by exact HOa.out) ⟨wr.heap.size,0,none⟩ 1 1 (smL (e.time,e.val)) (by simp[Act.eval]) rfl (by exact HNw.out) (by intro u hu;simp only[List.mem_cons,List.not_mem_nil,or_false] at hu;rcases hu with rfl | rfl<;>rfl) (by decide) (by unfold maxLen;omega) (by omega) (by simp;omega) _ rfl ?_;intro g1 c1 w3 ho3 hg3 hb3 hl3;have q5:=a0a (HGr.out w3 hg3);have r2:=a0c q5.out c2;have r3:=a0c q5.out c3;have q3:Hid (w3.ownsRow w.heap.size 78 2 (.slice (some ⟨g1,0,none⟩) (L+1) c1) (L+1) (flS (a1d (l.take (k+1)) j))):=a0a (by rw[q1.out,b0L];exact ho3);clear ho3 hg3 hb3))
     all_goals go_wp2_with fail
     all_goals go_roundw
     case rel=>exact⟨k+1,by go_num,by omega,by rw[q1.out,List.length_append,<-hLe.out,<-q1.out];exact q3,q5⟩
     case measure=>simp;omega
    ·have q1:Hid (a1d (l.take (k+1)) j=a1d (l.take k) j):=a0a (by rw[HTs.out,if_neg (fun h=>hk2 h.2)])
     go_wp2_with fail
     go_roundw
     case rel=>exact⟨k+1,by go_num,by omega,by rw[q1.out];exact HO,HBr⟩
     case measure=>simp;omega
   ·have q1:Hid (a1d (l.take (k+1)) j=a1d (l.take k) j):=a0a (by rw[HTs.out,if_neg (fun h=>hk1 h.1)])
    go_wp2_with fail
    go_roundw
    case rel=>exact⟨k+1,by go_num,by omega,by rw[q1.out];exact HO,HBr⟩
    case measure=>simp;omega
  ·have hkN:k=N:=by omega
   have hE:Hid (a1d (l.take k) j=a1d l j):=a0a (by rw[hkN,hNn.out,List.take_length])
   rw[hE.out] at HO ⊢
   go_wp2_with fail
   go_ret
   exact⟨_,_,rfl,b1y HO.out,HBr.out⟩
structure b5t (B ob j:Nat)(cs:List Value)(e:TypeId)(sz:Nat)(v:Value)(n:Nat)(xs:List Value)(w:World):Prop where
 box:Box w ob (cs.set j v)
 own:w.ownsRow B e sz v n xs
 lt:ob<B
theorem b5t.next {B ob j:Nat}{cs:List Value}{e:TypeId}{sz:Nat}{v:Value}{n:Nat}{xs:List Value}{w w':World}(h:b5t B ob j cs e sz v n xs w)(hb:Below w.heap.size w w'):b5t B ob j cs e sz v n xs w':=⟨h.box.next hb,a2Z h.own hb,h.lt⟩
theorem b5t.grow {B ob j:Nat}{cs:List Value}{e:TypeId}{sz:Nat}{v:Value}{n:Nat}{xs ys:List Value}{w1 w2:World}{g cap:Nat}(h:b5t B ob j cs e sz v n xs w1)(hj:j<cs.length)
 (ho:w2.ownsRow B e sz (.slice (some ⟨g,0,none⟩) (n+1) cap) (n+1) ys) (hg:w1.grownBy w2 v.ownBlock) :
 Box w2 ob (cs.set j v)/\b5t B ob j cs e sz (.slice (some ⟨g,0,none⟩) (n+1) cap) (n+1) ys (w2.setCell ⟨ob,j,none⟩ (.slice (some ⟨g,0,none⟩) (n+1) cap)):=by
 have b2:Box w2 ob (cs.set j v):=a8T h.box (hg.block ob h.box.lt (fun e2=>by have:=(a0t h.own e2.symm).1;have:=h.lt;omega)) hg.size
 have T:=a0q w2 ob j (.slice (some ⟨g,0,none⟩) (n+1) cap)
 have b3:=b2.set j (by simpa using hj) (.slice (some ⟨g,0,none⟩) (n+1) cap)
 rw[List.set_set] at b3
 exact⟨b2,b3,a2Q ho (fun b hb hl=>T.block b hl (by have:=h.lt;simp;omega)),h.lt⟩
theorem a6p (w:World)(l:List Value)(t:TypeId):∀ j u,l[j]? = some u->(w.alloc (.cells l.toArray t)).cell? ((⟨w.heap.size,0,none⟩:Addr).add j)=some u:=by
 intro j u hu
 have hadd:(⟨w.heap.size,0,none⟩:Addr).add j=⟨w.heap.size,j,none⟩:=by unfold Addr.add;split<;>simp_all
 rw[hadd]
 exact(Box.new w l t).cell j u hu
theorem a5j {ops:Array Oper}{o:Oper}{a:Act}{w:World}{K:Act->World->Prop}{Q:Exit->Act->World->Prop}{E:Prop}(hgd:o.guard=none)(f:Nat)(args:Array Value){P:Value->World->Prop}
 (C:Calls Tryz.prog f args w fun e w'=>∃ v,e=.returned v/\P v w') (he:(execOp a.eval o).run Tryz.prog w=.ok (.enter f args) w) (hK:∀ v w',P v w'->K (a.put o.dst v) w') :
 if Region.wanted o (yielded ops a.tmps)=true then Oper.wp Tryz.prog o a w K Q else E:=by
 have hwd:Region.wanted o (yielded ops a.tmps)=true:=by simp[Region.wanted,hgd]
 rw[if_pos hwd]
 unfold Oper.wp
 rw[he,Oper.upon_enter]
 refine C.mono fun e w' h=>?_
 obtain⟨v,rfl,h1⟩:=h
 exact hK v w' h1
end Go.Proofs.YtbddbnjhmdbkbaaGreatDoor

import Derived.Test.YtbgomckkockemaaGreatDoorMhP
import Derived.Test.YtbgomckkockemaaGreatDoorCkI
namespace Go.Proofs.YtbgomckkockemaaGreatDoor
open Go.RowKit Go.Shelf
attribute [local go_sem] Oper.semAt_some
theorem ma_new_cells (w:World)(l:List Value)(t:TypeId):∀ j u,l[j]? = some u->(w.alloc (.cells l.toArray t)).cell? ((⟨w.heap.size,0,none⟩:Addr).add j)=some u:=by
 intro j u hu
 have hadd:(⟨w.heap.size,0,none⟩:Addr).add j=⟨w.heap.size,j,none⟩:=by unfold Addr.add;split<;>simp_all
 rw[hadd]
 exact(Box.new w l t).cell j u hu
theorem ma_new_cells' (w:World)(l:List Value)(t:TypeId)(B:Nat)(hB:w.heap.size=B):∀ j u,l[j]? = some u->(w.alloc (.cells l.toArray t)).cell? ((⟨B,0,none⟩:Addr).add j)=some u:=by
 subst hB
 exact ma_new_cells w l t
def flE (l:List EvP):List Value:=(l.map evtL).flatten
theorem flE_snoc (l:List EvP)(x:EvP):flE (l++[x])=flE l++evtL x:=by simp[flE]
theorem flE_len (l:List EvP):(flE l).length=l.length*4:=by
 induction l with
 | nil=>rfl
 | cons x r ih=>simp only[flE,List.map_cons,List.flatten_cons,List.length_append,List.length_cons] at ih ⊢;simp at ih ⊢;omega
theorem flE_at:∀ (xs:List EvP) (i:Nat) (hi:i<xs.length) (j:Nat) (u:Value),(evtL xs[i])[j]? = some u->(flE xs)[i*4+j]? = some u
 | x::r,0,_,j,u,h=>by
   have hj:j<4:=by have:=(List.getElem?_eq_some_iff.1 h).1;simpa using this
   simp only[flE,List.map_cons,List.flatten_cons,Nat.zero_mul,Nat.zero_add]
   rw[List.getElem?_append_left (by simpa using hj)]
   exact h
 | x::r,i+1,hi,j,u,h=>by
   have:=flE_at r i (by simpa using hi) j u (by simpa using h)
   simp only[flE,List.map_cons,List.flatten_cons] at this ⊢
   rw[List.getElem?_append_right (by simp;omega)]
   have e:(i+1)*4+j-(evtL x).length=i*4+j:=by simp;omega
   rw[e]
   exact this
theorem evs_of_own {w:World}{B:Nat}{u:Value}{l:List EvP}(h:w.ownsRow B 54 4 u l.length (flE l)):EvsAt w u l:=by
 obtain⟨h1,⟨h2,h3⟩ | ⟨g,cap,cur,h2,h3,h4,h5,h6,h7,h8⟩⟩:=h
 ·exact⟨none,0,by rw[h2,h3],by omega,by omega,.inl h3⟩
 ·have BX:Box w g (flE l):=(Box.ofBlock h4).part (by rw[<-h8];exact List.take_prefix _ _)
  refine⟨_,cap,h2,h5,h6,.inr ⟨g,0,rfl,BX.lt,fun i hi j x hx=>?_⟩⟩
  have hg:l.getD i ev0=l[i]:=by simp[List.getD,hi]
  have:=BX.cell (i*4+j) x (flE_at l i hi j x (by rw[<-hg];exact hx))
  simpa using this
theorem info_ev:(Tryz.prog.info? 54).map (fun i=>(i.zero,i.size,i.bytes))=some (some (evtV ev0),4,32):=by kernel_rfl
theorem info_ev':∃ i,Tryz.prog.info? 54=some i/\i.zero=some (evtV ev0)/\i.size=4/\i.bytes=32:=by
 have h:=info_ev
 cases hi:Tryz.prog.info? 54 with
 | none=>rw[hi] at h;cases h
 | some i=>
   rw[hi] at h
   simp only[Option.map_some,Option.some.injEq,Prod.mk.injEq] at h
   exact⟨i,rfl,h.1,h.2.1,h.2.2⟩
theorem own_kept {w w':World}{B:Nat}{e:TypeId}{k n:Nat}{v:Value}{xs:List Value}{row:Option Nat}(h:w.ownsRow B e k v n xs)(hg:w.grownBy w' row)(hr:∀ r,row=some r->v.ownBlock≠some r):w'.ownsRow B e k v n xs:=by
 obtain⟨h1,h2 | ⟨g,cap,cur,h2,h3,h4,h5⟩⟩:=h
 ·exact⟨h1,.inl h2⟩
 ·exact⟨h1,.inr ⟨g,cap,cur,h2,h3,(hg.block g (Array.getElem?_eq_some_iff.1 h4).1 (fun e=>hr g e.symm (by rw[h2];rfl))).trans h4,h5⟩⟩
theorem own_typed {w:World}{B:Nat}{e:TypeId}{k n:Nat}{v:Value}{xs:List Value}(h:w.ownsRow B e k v n xs){r:Nat}(hr:v.ownBlock=some r):B<=r/\∃ cur,w.heap[r]? = some (Obj.cells cur e (0,0)):=by
 obtain⟨h1,⟨h2,-⟩ | ⟨g,cap,cur,h2,h3,h4,h5⟩⟩:=h
 ·rw[h2] at hr;cases hr
 ·rw[h2] at hr;cases hr;exact⟨h3,cur,h4⟩
theorem not_clk {W:World}{B b:Nat}{cs:Array Value}{t:TypeId}{fr:Nat×Nat}(hb:W.heap[b]? = some (Obj.cells cs t fr))(ht:t≠2){row:Option Nat}(hr:∀ r,row=some r->B<=r/\∃ o:Obj,W.heap[r]? = some o/\(o.isCells=false\/ClkO o)):row≠some b:=fun e=>by
 obtain⟨-,o,h1,h2⟩:=hr b e
 rw[hb] at h1
 cases h1
 rcases h2 with h2 | ⟨v,h2⟩
 ·cases h2
 ·simp only[Obj.cells.injEq] at h2
  exact ht h2.2.1
theorem cells_ownC {β : Type}(B b:Nat)(cs : β -> Array Value)(t:TypeId)(ht:t≠2):OwnC B (fun (s : β) W=>W.heap[b]? = some (Obj.cells (cs s) t (0,0))):=fun _ _ _ _ hs hg hr=>
 (hg.block b (Array.getElem?_eq_some_iff.1 hs).1 (fun e=>not_clk hs ht hr e.symm)).trans hs
theorem below_ownC {β : Type}{n B:Nat}{w:World}(h1:n<=B)(h2:n<=w.heap.size):OwnC B (fun (_ : β) W=>Below n w W):=fun _ _ _ _ hs hg hr=>
 hs.trans ⟨hg.os,hg.tape,hg.output,hg.size,fun k hk=>hg.block k (by have:=hs.size;omega) (fun e=>by have:=(hr k e.symm).1;omega)⟩
theorem row_ownC {β : Type}(B b n0:Nat)(t e:TypeId)(k:Nat)(f : β -> Nat)(xs : β -> List Value)(ht:t≠2)(he:e≠2):OwnC B (fun (s : β) W=>∃ u,Boxed W b t u/\W.ownsRow n0 e k u (f s) (xs s)):=fun s W W' row ⟨u,h1,h2⟩ hg hr=>
 ⟨u,(hg.block b (Array.getElem?_eq_some_iff.1 h1).1 (fun e=>not_clk h1 ht hr e.symm)).trans h1,own_kept h2 hg (fun r hrow hu=>by
   obtain⟨-,cur,hc⟩:=own_typed h2 hu
   exact not_clk hc he hr hrow)⟩
theorem keepT_alloc {n0:Nat}{W:World}(o:Obj)(h:n0<=W.heap.size):KeepT n0 W (W.alloc o):=
 ⟨(Below.refl _ _).alloc h o,fun k _ _ _ hk _=>(Below.heap_alloc W o k (Array.getElem?_eq_some_iff.1 hk).1).trans hk⟩
theorem keepT_grown {n0:Nat}{W W':World}{row:Option Nat}(hg:W.grownBy W' row)(hn:n0<=W.heap.size)(hr:∀ r,row=some r->n0<=r/\∃ cs t fr,W.heap[r]? = some (Obj.cells cs t fr)/\t≠3/\t≠2):KeepT n0 W W':=
 ⟨⟨hg.os,hg.tape,hg.output,hg.size,fun k hk=>hg.block k (by omega) (fun e=>by have:=(hr k e.symm).1;omega)⟩,fun k cs t fr hk ht=>(hg.block k (Array.getElem?_eq_some_iff.1 hk).1 (fun e=>by
   obtain⟨-,cs',t',fr',h1,h2,h3⟩:=hr k e.symm
   rw[hk] at h1
   cases h1
   rcases ht with h | h
   ·exact h2 h
   ·exact h3 h)).trans hk⟩
def SeqInv (w:World)(b:Nat)(M:Int)(pre:List (KEv M))(W:World):Prop:=(∃ u,Boxed W b 33 u/\W.ownsRow (w.heap.size+1) 54 4 u pre.length (flE (pre.map (·.1))))/\Below w.heap.size w W
theorem seqInv_own (w:World)(b B:Nat)(M:Int)(h:w.heap.size<=B):OwnC B (SeqInv w b M):=
 OwnC.and (row_ownC B b (w.heap.size+1) 33 54 4 (fun pre:List (KEv M)=>pre.length) (fun pre=>flE (pre.map (·.1))) (by decide) (by decide)) (below_ownC h (Nat.le_refl _))
set_option maxRecDepth 100000 in
set_option maxHeartbeats 2000000 in
theorem appendSeq_c (bm bl:Nat)(M:Int)(l:List EvP)(v:Value)(w:World)(hm:Boxed w bm 3 (.int .i64 M))(hl:Boxed w bl 33 v)(hE:EvsAt w v l)(hok:∀ e,e∈l->EvOk e)(hL:l.length*32<=140737488355328):
 Calls Tryz.prog 86 #[.slice none 0 0,takenV bm bl] w fun r w'=>∃ u,r=.returned u/\w'.ownsRow w.heap.size 54 4 u (takenF M l).length (flE (takenF M l))/\Below w.heap.size w w':=by
 have HSt:=chid (taken_stops 4 (by decide) bm bl M l v w w (Below.refl _ _) hm hl hE hok)
 obtain⟨i0,hi,hz0,hz1,hz2⟩:=info_ev'
 refine(callsIn_wide (n:=5)).1 ?_
 refine callsIn_of_wp_marks Tryz.func86 rfl trivial ?_ rfl
 simp only[Tryz.ntmps86,List.size_toArray,List.length_cons,List.length_nil,Nat.reduceAdd,Nat.reduceSub,Array.replicate_succ,Array.replicate_zero,List.push_toArray,List.append_toArray,List.nil_append,List.cons_append]
 gi_wp2_with fail
 have b0:=Boxed.new w 33 (.slice none 0 0)
 have hB0:Below w.heap.size w (w.alloc (.cells #[.slice none 0 0] 33)):=(Below.refl _ w).alloc (Nat.le_refl _) _
 have hs0:(w.alloc (.cells #[.slice none 0 0] 33)).heap.size=w.heap.size+1:=by simp
 generalize hW0:w.alloc (.cells #[.slice none 0 0] 33)=W0 at *
 clear hW0 hm hl hE hok
 refine wpIn_rangeC rfl (by decide) (gf:=75) (lb:=#[.pointer (some ⟨bm,0,none⟩),.pointer (some ⟨bl,0,none⟩)]) rfl trivial (enters_of Tryz.func75 (by kernel_rfl) rfl)
  HSt.out KeepT.trans (KeepT.put (by omega)) hB0 (fun _=>rfl)
  (SeqInv w w.heap.size M) (fun _ _ _=>False) (seqInv_own w w.heap.size W0.heap.size M (by omega)) (fun c s A B row hs=>hs.elim)
  ⟨⟨_,b0,World.ownsRow_nil _ _ _ _⟩,hB0⟩
  (fun x a' W=>∃ bx,W.heap[bx]? = some (Obj.cells (evtL x.1).toArray 54 (0,0))/\a'={tmps:=#[.slice none 0 0,takenV bm bl,.pointer (some ⟨w.heap.size,0,none⟩),undef,.slice none 0 0,.pointer (some ⟨bx,0,none⟩),takenV bm bl,evtV x.1,undef,undef,undef,undef,undef],defers:=[]})
  (fun x s A B row ⟨bx,h1,h2⟩ hg hr=>⟨bx,cells_ownC W0.heap.size bx (fun _:Unit=>(evtL x.1).toArray) 54 (by decide) () A B row h1 hg hr,h2⟩) ?assign ?body ?done ?stop
 case assign=>
  rintro l pre x W K ⟨⟨u,hu,hrow⟩,hB⟩ hK
  gi_wp2
  exact hK _ _ ((KeepsOthers.alloc _ _).from _) (keepT_alloc _ hB.size) ⟨⟨u,hu.alloc _,hrow.alloc _⟩,hB.alloc hB.size _⟩ ⟨W.heap.size,World.alloc_heap_new W _,rfl⟩
 case body=>
  clear b0 hB0
  rintro lp pre x a' W ⟨⟨u,hu,hrow⟩,hB⟩ ⟨bx,hbx,rfl⟩ hlt
  obtain⟨av,cv,rfl⟩:=own_shape hrow
  obtain⟨⟨ek,ei,ev,et⟩,hxp⟩:=x
  dsimp only at *
  have BX:=Box.ofBlock hbx
  have x0:=BX.cell 0 _ rfl
  have x1:=BX.cell 1 _ rfl
  have x2:=BX.cell 2 _ rfl
  have x3:=BX.cell 3 _ rfl
  have xl:=BX.lt
  have u0:=hu.cell
  have uf:=hu.frozen
  have ul:=hu.lt
  have hsz:=hB.size
  have HRow:=chid hrow
  have HU:=chid hu
  have HB:=chid hB
  clear hrow hu hB hbx BX
  gi_wp2_with (gi_at_builtin;refine wpListIn_append_own _ rfl _ _ 33 rfl (w.heap.size+1) 54 i0 (evtV ev0) 4 32 Tryz.underlying33 hi hz0 hz1 hz2 rfl (by decide) _ _ _ rfl (HRow.out.alloc _) ⟨W.heap.size,0,none⟩ 1 1 (evtL ⟨ek,ei,ev,et⟩) rfl rfl (by exact ma_new_cells' _ _ _ _ rfl) (by intro u hu;simp only[List.mem_cons,List.not_mem_nil,or_false] at hu;rcases hu with rfl | rfl | rfl | rfl<;>rfl) (by unfold maxLen;omega) (by omega) (by simp;omega) ?_)
  intro v' w1 hown' hgrow _
  obtain⟨g',c',rfl,hg1,hg2⟩:=hown'.form (by omega)
  have hne:(Value.slice av pre.length cv).ownBlock≠some w.heap.size:=fun e=>by
   have:=(own_typed HRow.out e).1
   omega
  have hU1:Boxed w1 w.heap.size 33 (.slice av pre.length cv):=(hgrow.block w.heap.size (HU.out.alloc _).lt (fun e=>hne e.symm)).trans (HU.out.alloc _)
  have k1:=hU1.cell
  have k2:=hU1.frozen
  have k3:=hU1.lt
  have HRt:Hid (∀ r,(Value.slice av pre.length cv).ownBlock=some r->w.heap.size+1<=r/\∃ cs t fr,(W.alloc (.cells (evtL ⟨ek,ei,ev,et⟩).toArray 54)).heap[r]? = some (Obj.cells cs t fr)/\t≠3/\t≠2):=fun r hr=>by
   obtain⟨q1,cur,q2⟩:=own_typed (HRow.out.alloc (.cells (evtL ⟨ek,ei,ev,et⟩).toArray 54)) hr
   exact⟨q1,cur,_,_,q2,by decide,by decide⟩
  have KO:Hid (KeepsOthers W w1):=(KeepsOthers.alloc W _).trans (KeepsOthers.of_grownBy hgrow (fun j o e ho=>by
   obtain⟨-,cs,t,fr,q,-⟩:=HRt.out j e
   rw[q] at ho
   cases ho
   rfl))
  have KT:Hid (KeepT w.heap.size W w1):=(keepT_alloc _ hsz).trans (keepT_grown hgrow (by simp;omega) (fun r e=>by
   obtain⟨q1,q2⟩:=HRt.out r e
   exact⟨by omega,q2⟩))
  have HBw:Hid (Below w.heap.size w w1):=HB.out.trans KT.out.1
  have HO:Hid (w1.ownsRow (w.heap.size+1) 54 4 (.slice (some ⟨g',0,none⟩) (pre.length+1) c') (pre++[(⟨⟨ek,ei,ev,et⟩,hxp⟩:KEv M)]).length (flE ((pre++[(⟨⟨ek,ei,ev,et⟩,hxp⟩:KEv M)]).map (·.1)))):=by
   rw[List.map_append,List.length_append]
   show Hid (w1.ownsRow _ _ _ _ _ (flE (pre.map (·.1)++[⟨ek,ei,ev,et⟩])))
   rw[flE_snoc]
   exact chid hown'
  have HU1:=chid hU1
  have hgb:g'≠w.heap.size:=by omega
  clear hown' hgrow hU1 hne u0 uf ul x0 x1 x2 x3 xl HU HRow HB HRt
  gi_wp2
  exact⟨(KO.out.trans (KeepsOthers.setCell _ _ _)).from _,KT.out.trans (keepT_grown (grownBy_setCell' w1 w.heap.size _) HBw.out.size (fun r e=>by cases e;exact⟨Nat.le_refl _,_,_,_,HU1.out,by decide,by decide⟩)),⟨_,HU1.out.set _,own_kept HO.out (grownBy_setCell' w1 w.heap.size _) (fun r e=>by cases e;intro h;cases h;exact hgb rfl)⟩,HBw.out.setCell (p:=⟨w.heap.size,0,none⟩) (Nat.le_refl _) _⟩
 case done=>
  rintro D ys W hD hys ⟨⟨u,hu,hrow⟩,hB⟩ hK
  obtain⟨av,cv,rfl⟩:=own_shape hrow
  have hlen:ys.length=(takenF M l).length:=by rw[<-hys,List.length_map]
  rw[hys,hlen] at hrow
  rw[hlen] at hu
  have u0:=hu.cell
  have ul:=hu.lt
  have HR:=hid hrow
  have HB:=hid hB
  have HD:=hid hD
  have HK:=hid hK
  have HU:=hid hu
  clear hrow hB hD hK hu hys hlen
  gi_wp2
  refine⟨by simp,.inl ⟨_,_,rfl,run_takeDeferred (ds:=[]) HK.out,?_⟩⟩
  refine⟨_,results_tmp (t:=4) rfl _ _ _,?_⟩
  have hg:=grownBy_putObj' W D (.deferred none)
  refine⟨_,rfl,own_kept (own_low w.heap.size HR.out (by omega)) hg (fun r e h=>?_),HB.out.trans ⟨hg.os,hg.tape,hg.output,hg.size,fun k hk=>hg.block k (by have:=HB.out.size;omega) (fun e=>by cases e;have:=HD.out;omega)⟩⟩
  cases e
  obtain⟨-,cur,q⟩:=own_typed HR.out h
  have hk:=HK.out
  rw[q] at hk
  cases hk
 case stop=>rintro D c pre W hD hs h;exact h.elim
set_option maxHeartbeats 1000000 in
theorem collect_c (bm bl:Nat)(M:Int)(l:List EvP)(v:Value)(w:World)(hm:Boxed w bm 3 (.int .i64 M))(hl:Boxed w bl 33 v)(hE:EvsAt w v l)(hok:∀ e,e∈l->EvOk e)(hL:l.length*32<=140737488355328):
 Calls Tryz.prog 48 #[takenV bm bl] w fun r w'=>∃ u,r=.returned u/\w'.ownsRow w.heap.size 54 4 u (takenF M l).length (flE (takenF M l))/\Below w.heap.size w w':=by
 have HC:=chid (appendSeq_c bm bl M l v w hm hl hE hok hL)
 clear hm hl hE hok
 go_enter Tryz.func48,Tryz.ntmps48
 go_wp2_with fail
 refine Calls.mono HC.out ?_
 rintro r w1 ⟨u,rfl,h1,h2⟩
 obtain⟨av,cv,rfl⟩:=own_shape h1
 go_wp2_with fail
 go_ret
 exact⟨_,rfl,h1,h2⟩
set_option maxHeartbeats 1000000 in
theorem mTaken_c (p:PlP)(v:PlV)(l:List EvP)(u:Value)(w:World)(hv:∃ a1 c1 a2 c2 a3 c3 a4 c4 a5 c5,v=⟨.slice a1 p.mets.length c1,.slice a2 p.wins.length c2,.slice a3 p.crons.length c3,.slice a4 p.gs.length c4,.slice a5 p.fin.parts.length c5⟩)(hE:EvsAt w u l)(hok:∀ e,e∈l->EvOk e)(hL:l.length*32<=140737488355328):
 Calls Tryz.prog 20 #[plV p v,u] w fun r w'=>∃ x,r=.returned x/\w'.ownsRow w.heap.size 54 4 x (takenF p.mets.length l).length (flE (takenF p.mets.length l))/\Below w.heap.size w w':=by
 obtain⟨a1,c1,a2,c2,a3,c3,a4,c4,a5,c5,rfl⟩:=hv
 have HT:=chid (fun W=>taken_c p.mets.length u W (by obtain⟨ad,cap,e,-⟩:=hE;exact⟨ad,_,cap,e⟩))
 have HC:=chid (fun bm bl W (hW:Below w.heap.size w W) hm hl=>collect_c bm bl p.mets.length l u W hm hl (RowsK.next hE hW) hok hL)
 have X:=Box.new w (plL p ⟨.slice a1 p.mets.length c1,.slice a2 p.wins.length c2,.slice a3 p.crons.length c3,.slice a4 p.gs.length c4,.slice a5 p.fin.parts.length c5⟩) 32
 have B0:=chid ((Below.refl w.heap.size w).alloc (Nat.le_refl _) (.cells (plL p ⟨.slice a1 p.mets.length c1,.slice a2 p.wins.length c2,.slice a3 p.crons.length c3,.slice a4 p.gs.length c4,.slice a5 p.fin.parts.length c5⟩).toArray 32))
 have x0:=X.cell 0 _ rfl
 have xl:=X.lt
 obtain⟨ad,cap,rfl,-,-,-⟩:=hE
 clear hok X
 go_enter Tryz.func20,Tryz.ntmps20
 go_wp2_with fail
 refine Calls.mono (HT.out _) ?_
 rintro r w1 ⟨bm,bl,rfl,hbm,hbl,h1,h2,b⟩
 have B1:=chid (cbelow_on B0.out b B0.out.size)
 clear x0 xl
 go_wp2_with fail
 refine Calls.mono (HC.out bm bl w1 B1.out h1 h2) ?_
 rintro r w2 ⟨x,rfl,h3,b2⟩
 obtain⟨av,cv,rfl⟩:=own_shape h3
 have hs:=B1.out.size
 go_wp2_with fail
 go_ret
 exact⟨_,rfl,own_low _ h3 hs,cbelow_on B1.out b2 B1.out.size⟩
end Go.Proofs.YtbgomckkockemaaGreatDoor

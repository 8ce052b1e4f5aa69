import Derived.Test.YtepncopdjodfgaaGreatDoorMgM
import Derived.Test.YtepncopdjodfgaaGreatDoorMhX
import Derived.Test.YtepncopdjodfgaaGreatDoorMhN
namespace Go.Proofs.YtepncopdjodfgaaGreatDoor
open Go.RowKit
theorem ccnt_snd:∀ (l:List Co) (s:Nat),s<=4096->(crunV ccntV l s).2=decide (s+l.length<=4096)
 | [],s,h=>by simp[crunV,h]
 | t::r,s,h=>by
   rw[crunV]
   by_cases hs:s+1<=4096
   ·rw[if_pos (by simp[ccntV,hs])]
    have:=ccnt_snd r (s+1) hs
    show (crunV ccntV r (s+1)).2=_
    rw[this,List.length_cons];congr 2;omega
   ·rw[if_neg (by simp[ccntV,hs])]
    show false=_
    rw[List.length_cons];exact(decide_eq_false (by omega)).symm
def FewR (W:World)(g:Nat)(s:Nat)(F:List Nat)(w:World):Prop:=F=[g]/\Box w g [.int .i64 (4096-(s:Int))]/\W.heap.size<=g
theorem few_call (W:World)(g s:Nat)(F:List Nat)(t:Co)(v:Value)(w:World)(hG:s<=4096)(hR:FewR W g s F w)(hs:CSits W t v):Calls Tryz.prog 163 (#[coV t v]++#[.pointer (some ⟨g,0,none⟩)]) w (CVPost (FewR W g) (ccntV s t) F w):=by
 obtain⟨rfl,hb,hW⟩:=hR
 obtain⟨ad,cap,rfl,-,-⟩:=hs.parts.shape
 have c0:=hb.cell 0 _ rfl
 have f0:=hb.free 0 (by simp)
 have l0:=hb.lt
 have HB:=chid hb
 obtain⟨S,hS⟩:∃ S:Int,Hid (S=4096-(s:Int)):=⟨_,rfl⟩
 rw[<-hS.out] at c0
 have ng:g≠w.heap.size:=by omega
 have hi1:0<=S:=by have:=hS.out;omega
 have hi2:S<=4096:=by have:=hS.out;omega
 clear hs hb
 have hP:Hid (∀ o,CVPost (FewR W g) (ccntV s t) [g] w (.returned (.bool (decide (1<=S)))) ((w.setCell ⟨g,0,none⟩ (.int .i64 (S-1))).alloc o)):=fun o=>by
  have hd:decide (1<=S)=decide (s+1<=4096):=decide_eq_decide.2 (by have:=hS.out;omega)
  refine⟨by rw[hd];rfl,[g],⟨rfl,?_,hW⟩,?_,fun b hm=>.inl hm⟩
  ·have:=(HB.out.set 0 (by simp) (.int .i64 (S-1))).next ((Below.refl _ _).alloc (Nat.le_refl _) o)
   have e1:(4096-((ccntV s t).1:Int))=S-1:=by show (4096-((s+1:Nat):Int))=_;have:=hS.out;omega
   rw[e1]
   exact this
  ·exact(Turn.set w ⟨g,0,none⟩ _ (by simp)).andBelow ((Below.refl _ _).alloc (Nat.le_refl _) o)
 clear hG
 show Calls Tryz.prog 163 #[coV t (.slice ad t.parts.length cap),.pointer (some ⟨g,0,none⟩)] w _
 go_enter Tryz.func163,Tryz.ntmps163
 go_wp2_with fail
 go_ret
 exact hP.out _
theorem few_vis (W:World)(g:Nat):GVis W (FewR W g) ccntV (fun s=>s<=4096) (fun _=>True) 163 #[.pointer (some ⟨g,0,none⟩)] where
 next:=fun s F w w' ⟨a,b,c⟩ hb=>⟨a,b.next hb,c⟩
 lt:=fun s F w ⟨a,b,c⟩ k hk=>by
  subst a
  simp at hk
  subst hk
  exact⟨c,b.lt⟩
 good:=fun s t hs hb=>by simp[ccntV] at hb;simpa[ccntV] using hb
 call:=fun s F t v w _ hG hR _ hs=>few_call W g s F t v w hG hR hs
theorem ent_few:Ent 163:=by intro args W;kernel_rfl
theorem PlAt.shapes {w:World}{p:PlP}{v:PlV}(h:PlAt w p v):∃ a1 c1 a2 c2 a3 c3 a4 c4 a5 c5,v=⟨.slice a1 p.mets.length c1,.slice a2 p.wins.length c2,.slice a3 p.crons.length c3,.slice a4 p.gs.length c4,.slice a5 p.fin.parts.length c5⟩/\p.mets.length<=9223372036854775807/\p.wins.length<=9223372036854775807/\p.crons.length<=9223372036854775807/\p.gs.length<=9223372036854775807:=by
 obtain⟨a1,c1,e1,u1,t1⟩:=RowsK.shape h.me
 obtain⟨a2,c2,e2,u2,t2⟩:=RowsK.shape h.wi
 obtain⟨a3,c3,e3,u3,t3⟩:=RowsK.shape h.cr
 obtain⟨a4,c4,e4,u4,t4⟩:=h.gs.shape
 obtain⟨a5,c5,e5,u5,t5⟩:=h.fi.parts.shape
 obtain⟨me,wi,cr,gs,fi⟩:=v
 dsimp only at *
 exact⟨a1,c1,a2,c2,a3,c3,a4,c4,a5,c5,by rw[e1,e2,e3,e4,e5],by omega,by omega,by omega,by omega⟩
set_option maxHeartbeats 1000000 in
theorem fewNodes_c (p:PlP)(v:PlV)(w:World)(hs:PlAt w p v):Calls Tryz.prog 115 #[plV p v] w fun e w'=>e=.returned (.bool (fewB p))/\Below w.heap.size w w':=by
 have A:∀ o o',Below w.heap.size w ((w.alloc o).alloc o'):=fun o o'=>((Below.refl _ _).alloc (Nat.le_refl _) _).alloc (by simp) _
 have HW:=chid (fun (o:Obj) (ty:TypeId)=>gplan_c ent_few (few_vis w (w.heap.size+1)) p v (fun _ _=>trivial) 0 [w.heap.size+1] ((w.alloc o).alloc (.cells #[.int .i64 4096] ty)) (by omega) ⟨rfl,by simpa using Box.new (w.alloc o) [.int .i64 4096] ty,by omega⟩ (A _ _) hs)
 obtain⟨a1,c1,a2,c2,a3,c3,a4,c4,a5,c5,rfl,-⟩:=hs.shapes
 have HE:Hid ((crunV ccntV (plord p) 0).2=fewB p):=by
  show _=_
  rw[ccnt_snd _ 0 (by omega),Nat.zero_add]
  rfl
 have HA:=chid A
 clear hs A
 generalize fewB p=B at *
 go_enter Tryz.func115,Tryz.ntmps115
 go_wp2_with fail
 refine Calls.mono (HW.out _ _) ?_
 rintro e w1 ⟨he,F',-,t1,-⟩
 rw[HE.out] at he
 subst he
 have B1:Hid (Below w.heap.size w w1):=(HA.out _ _).trans (t1.below (fun k hk=>by simp at hk;omega) (by simp;omega))
 clear t1 HW
 go_wp2_with fail
 go_ret
 exact⟨rfl,B1.out⟩
end Go.Proofs.YtepncopdjodfgaaGreatDoor

import Derived.Test.YtepncopdjodfgaaGreatDoorMhJ
import Derived.Test.YtepncopdjodfgaaGreatDoorMgF
import Derived.Deep.CutRange
import Derived.Test.YtepncopdjodfgaaGreatDoorMgW
namespace Go.Proofs.YtepncopdjodfgaaGreatDoor
open Go.RowKit
def toldOf (agg per:Int)(V:List Int):Int×Int:=
 if agg=1 then (if -9223372036854775808<=V.sum/\V.sum<9223372036854775808 then (0,V.sum) else (3,0))
 else if agg=5 then (0,(V.length:Int)*1000000)
 else if V=[] then (1,0)
 else if agg=2 then (0,V.sum/(V.length:Int))
 else if agg=3 then (0,(kept false V).headD 0)
 else if agg=4 then (0,(kept true V).headD 0)
 else (0,((srtN V)[nearest per V.length-1]?).getD 0)
theorem mean_in {V:List Int}(h:∀ x,x∈V->In64 x)(hn:V≠[]):In64 (V.sum/(V.length:Int)):=by
 obtain⟨h1,h2⟩:=sum_bounds h
 have hp:0<(V.length:Int):=by have:=List.length_pos_iff.2 hn;omega
 refine⟨?_,?_⟩
 ·exact(Int.le_ediv_iff_mul_le hp).2 (by have:=Int.mul_comm (-9223372036854775808) (V.length:Int);omega)
 ·exact(Int.ediv_lt_iff_lt_mul hp).2 (by have:=Int.mul_comm 9223372036854775808 (V.length:Int);omega)
def rv (x:Int×Int):Value:=.agg #[.int .i64 x.1,.int .i64 x.2]
set_option maxRecDepth 20000 in
set_option maxHeartbeats 4000000 in
theorem wTold (b r q:Nat)(A:List Nat)(sp mp op:Option Addr)(agg span per ck:Int)(on:Bool)(L:List Pr)(w:World)(h:WinIs w b r q A sp mp op agg span per ck on L):
 Calls Tryz.prog 222 #[.pointer (some ⟨b,0,none⟩)] w fun e w'=>e=.returned (rv (toldOf agg per (vals L)))/\Below w.heap.size w w':=by
 have hvin:=vals_in h.inn
 have hlen:=h.ring.len
 have hvl:(vals L).length=L.length:=by simp[vals]
 have hB:Below w.heap.size w (w.alloc (.cells #[.int .i64 0,.int .i64 0] 72)):=(Below.refl _ _).alloc (Nat.le_refl _) _
 have hR:=Box.new w [.int .i64 0,.int .i64 0] 72
 have hX:=h.box.next hB
 have hRg:=h.ring.next hB
 have hA:=h.aux.next hB
 have hfair:=h.fair
 have hlt:=hX.lt
 have c0:=hX.cell 0 _ rfl
 have c1:=hX.cell 1 _ rfl
 have c3:=hX.cell 3 _ rfl
 have c6:=hX.cell 6 _ rfl
 have c7:=hX.cell 7 _ rfl
 have c8:=hX.cell 8 _ rfl
 have HB:=hid hB
 have HR:=hid hR
 clear h hX hB hR
 obtain⟨W,hW⟩:∃ W,W=w.alloc (.cells #[.int .i64 0,.int .i64 0] 72):=⟨_,rfl⟩
 rw[<-hW] at hRg hA hlt c0 c1 c3 c6 c7 c8 HB HR
 rcases hA with ⟨a,lo,hi,ha,hb,hr,rfl,rfl,rfl,rfl⟩ | ⟨a,c,h,ha,hm,rfl,rfl,rfl,rfl⟩ | ⟨ha,rfl,rfl,rfl,rfl⟩ | ⟨a,c,ha,hk,rfl,rfl,rfl,rfl⟩
 ·skip
  rcases ha with rfl | rfl
  ·have HF:=hid (wFit_at a lo hi _ hr W hb.lt hb.two.1 hb.two.2.1)
   by_cases hf : -9223372036854775808<=(vals L).sum/\(vals L).sum<9223372036854775808
   ·have ht:toldOf 1 per (vals L)=(0,(vals L).sum):=by rw[toldOf,if_pos rfl,if_pos hf]
    rw[ht]
    rw[if_pos hf,decide_eq_true hf] at HF
    clear ht hf hb hr hvin hvl hlen hfair hRg
    generalize (vals L).sum=S at *
    go_enter Tryz.func222,Tryz.ntmps222
    go_upto_region 1 with fail
    rw[<-hW]
    clear hW
    go_wp2_with fail
    refine Calls.mono HF.out ?_
    rintro e w2 ⟨rfl,hb2⟩
    have hR2:=HR.out.next hb2
    have z0:=hR2.cell 0 _ rfl
    have z1:=hR2.cell 1 _ rfl
    have z2:=hR2.free 0 (by simp)
    have z3:∀ u,(w2.setCell ⟨w.heap.size,0,none⟩ u).frozen? ⟨w.heap.size,1,none⟩=false:=fun u=>(World.frozen?_setCell _ _ _ _).trans (hR2.free 1 (by simp))
    have o:=fun u v=>((hR2.set 0 (by simp) u).set 1 (by simp) v).two
    have o0:=fun u v=>(o u v).1
    have o1:=fun u v=>(o u v).2.1
    have H2:=hid hb2
    clear hR2 o hb2
    go_wp2_with fail
    refine bodyPost_ret (v:=rv _) (by simp[results,Tryz.results222,go_sem,o0,o1,rv]) rfl ⟨rfl,?_⟩
    exact((HB.out.trans (H2.out.mono HB.out.size)).setCell (Nat.le_refl _) _).setCell (Nat.le_refl _) _
   ·have ht:toldOf 1 per (vals L)=(3,0):=by rw[toldOf,if_pos rfl,if_neg hf]
    rw[ht]
    rw[if_neg hf,decide_eq_false hf] at HF
    clear ht hf hb hr hvin hvl hlen hfair hRg
    go_enter Tryz.func222,Tryz.ntmps222
    go_upto_region 1 with fail
    rw[<-hW]
    clear hW
    go_wp2_with fail
    refine Calls.mono HF.out ?_
    rintro e w2 ⟨rfl,hb2⟩
    have hR2:=HR.out.next hb2
    have z0:=hR2.cell 0 _ rfl
    have z1:=hR2.cell 1 _ rfl
    have z2:=hR2.free 0 (by simp)
    have z3:∀ u,(w2.setCell ⟨w.heap.size,0,none⟩ u).frozen? ⟨w.heap.size,1,none⟩=false:=fun u=>(World.frozen?_setCell _ _ _ _).trans (hR2.free 1 (by simp))
    have o:=fun u v=>((hR2.set 0 (by simp) u).set 1 (by simp) v).two
    have o0:=fun u v=>(o u v).1
    have o1:=fun u v=>(o u v).2.1
    have H2:=hid hb2
    clear hR2 o hb2
    go_wp2_with fail
    refine bodyPost_ret (v:=rv _) (by simp[results,Tryz.results222,go_sem,o0,o1,rv]) rfl ⟨rfl,?_⟩
    exact((HB.out.trans (H2.out.mono HB.out.size)).setCell (Nat.le_refl _) _).setCell (Nat.le_refl _) _
  ·have HL:=hid (fun n=>qLen r q 4096 L (W.drewN n) (hRg.turn (S:=[]) (drewN_turn [] W n) (by simp) (by simp)))
   by_cases hv:vals L=[]
   ·have ht:toldOf 2 per (vals L)=(1,0):=by rw[toldOf,if_neg (by decide),if_neg (by decide),if_pos hv]
    rw[ht]
    have hl0:L.length=0:=by rw[<-hvl,hv];rfl
    rw[hl0] at HL
    have HM:=hid (fun n=>wMean_none a 0 (by decide) (W.drewN n))
    clear ht hb hr hvin hvl hlen hfair hRg hv hl0
    go_enter Tryz.func222,Tryz.ntmps222
    go_upto_region 1 with fail
    rw[<-hW]
    clear hW
    go_wp2_with fail
    go_region_with (first|(go_at_call 270;refine Calls.mono (HL.out 1) ?_;rintro e w9 ⟨rfl,rfl⟩)|(go_at_call 269;refine Calls.mono (HM.out 1) ?_;rintro e w2 ⟨rfl,h9⟩;have hb2:=(drewN_below W 1).trans h9;clear h9))
    all_goals (
     have hR2:=HR.out.next hb2
     have z0:=hR2.cell 0 _ rfl
     have z1:=hR2.cell 1 _ rfl
     have z2:=hR2.free 0 (by simp)
     have z3:∀ u,(w2.setCell ⟨w.heap.size,0,none⟩ u).frozen? ⟨w.heap.size,1,none⟩=false:=fun u=>(World.frozen?_setCell _ _ _ _).trans (hR2.free 1 (by simp))
     have o:=fun u v=>((hR2.set 0 (by simp) u).set 1 (by simp) v).two
     have o0:=fun u v=>(o u v).1
     have o1:=fun u v=>(o u v).2.1
     have H2:=hid hb2
     clear hR2 o hb2
     go_wp2_with fail
     refine bodyPost_ret (v:=rv _) (by simp[results,Tryz.results222,go_sem,o0,o1,rv]) rfl ⟨rfl,?_⟩
     exact((HB.out.trans (H2.out.mono HB.out.size)).setCell (Nat.le_refl _) _).setCell (Nat.le_refl _) _)
   ·have ht:toldOf 2 per (vals L)=(0,(vals L).sum/((vals L).length:Int)):=by rw[toldOf,if_neg (by decide),if_neg (by decide),if_neg hv,if_pos rfl]
    rw[ht]
    obtain⟨s1,s2⟩:=sum_bounds hvin
    have hm:=mean_in hvin hv
    have hl1:1<=L.length:=by rw[<-hvl];exact List.length_pos_iff.2 hv
    have HM:=hid (fun n=>wMean_at a lo hi (vals L).sum (L.length:Int) hr (by rw[hvl] at s1;omega) (by omega) (by omega) (W.drewN n) hb.lt (hb.alike (w':=W.drewN n) rfl).two.1 (hb.alike (w':=W.drewN n) rfl).two.2.1)
    rw[hvl] at hm ⊢
    obtain⟨n,hn⟩:∃ n,n=L.length:=⟨_,rfl⟩
    rw[<-hn] at HL HM hm ⊢
    generalize hS:(vals L).sum/(n:Int)=S at *
    have hmm:=hid hm
    clear ht hb hr hvin hvl hlen hfair hRg hv hl1 s1 s2 hn hS hm
    go_enter Tryz.func222,Tryz.ntmps222
    go_upto_region 1 with fail
    rw[<-hW]
    clear hW
    go_wp2_with fail
    go_region_with (first|(go_at_call 270;refine Calls.mono (HL.out 1) ?_;rintro e w9 ⟨rfl,rfl⟩)|(go_at_call 269;refine Calls.mono (HM.out 1) ?_;rintro e w2 ⟨x,tb,rfl,ht1,ht2,-,h9⟩;obtain rfl:tb=true:=ht1.2 hmm.out;obtain rfl:x=S:=ht2 rfl;have hb2:=(drewN_below W 1).trans h9;clear ht1 ht2 h9))
    all_goals (
     have hR2:=HR.out.next hb2
     have z0:=hR2.cell 0 _ rfl
     have z1:=hR2.cell 1 _ rfl
     have z2:=hR2.free 0 (by simp)
     have z3:∀ u,(w2.setCell ⟨w.heap.size,0,none⟩ u).frozen? ⟨w.heap.size,1,none⟩=false:=fun u=>(World.frozen?_setCell _ _ _ _).trans (hR2.free 1 (by simp))
     have o:=fun u v=>((hR2.set 0 (by simp) u).set 1 (by simp) v).two
     have o0:=fun u v=>(o u v).1
     have o1:=fun u v=>(o u v).2.1
     have H2:=hid hb2
     clear hR2 o hb2
     go_wp2_with fail
     refine bodyPost_ret (v:=rv _) (by simp[results,Tryz.results222,go_sem,o0,o1,rv]) rfl ⟨rfl,?_⟩
     exact((HB.out.trans (H2.out.mono HB.out.size)).setCell (Nat.le_refl _) _).setCell (Nat.le_refl _) _)
 ·skip
  by_cases hv:vals L=[]
  ·have ht:toldOf agg per (vals L)=(1,0):=by rw[toldOf,if_neg (by omega),if_neg (by omega),if_pos hv]
   rw[ht]
   rw[hv] at hm
   have HM:=hid (mBest_no a c h W hm)
   clear ht hm hv hvin hvl hlen hfair hRg
   rcases ha with ⟨rfl,rfl⟩ | ⟨rfl,rfl⟩
   all_goals (
    go_enter Tryz.func222,Tryz.ntmps222
    go_upto_region 1 with fail
    rw[<-hW]
    clear hW
    go_wp2_with fail
    refine Calls.mono HM.out ?_
    rintro e w2 ⟨rfl,h9⟩
    have hb2:Below W.heap.size W w2:=h9 ▸ Below.refl _ _
    clear h9
    have hR2:=HR.out.next hb2
    have z0:=hR2.cell 0 _ rfl
    have z1:=hR2.cell 1 _ rfl
    have z2:=hR2.free 0 (by simp)
    have z3:∀ u,(w2.setCell ⟨w.heap.size,0,none⟩ u).frozen? ⟨w.heap.size,1,none⟩=false:=fun u=>(World.frozen?_setCell _ _ _ _).trans (hR2.free 1 (by simp))
    have o:=fun u v=>((hR2.set 0 (by simp) u).set 1 (by simp) v).two
    have o0:=fun u v=>(o u v).1
    have o1:=fun u v=>(o u v).2.1
    have H2:=hid hb2
    clear hR2 o hb2
    go_wp2_with fail
    refine bodyPost_ret (v:=rv _) (by simp[results,Tryz.results222,go_sem,o0,o1,rv]) rfl ⟨rfl,?_⟩
    exact((HB.out.trans (H2.out.mono HB.out.size)).setCell (Nat.le_refl _) _).setCell (Nat.le_refl _) _)
  ·obtain⟨y,K,hy⟩:∃ y K,kept h (vals L)=y::K:=by
    cases hk:kept h (vals L) with
    | nil=>exact absurd hk (kept_ne h hv)
    | cons y K=>exact⟨y,K,rfl⟩
   have ht:toldOf agg per (vals L)=(0,y):=by
    rw[toldOf,if_neg (by omega),if_neg (by omega),if_neg hv,if_neg (by omega)]
    rcases ha with ⟨rfl,rfl⟩ | ⟨rfl,rfl⟩
    ·rw[if_pos rfl,hy];rfl
    ·rw[if_neg (by decide),if_pos rfl,hy];rfl
   rw[ht]
   have HM:=hid (mBest_yes a c h (vals L) y K W hm hy)
   clear ht hm hv hvin hvl hlen hfair hRg hy
   rcases ha with ⟨rfl,rfl⟩ | ⟨rfl,rfl⟩
   all_goals (
    go_enter Tryz.func222,Tryz.ntmps222
    go_upto_region 1 with fail
    rw[<-hW]
    clear hW
    go_wp2_with fail
    refine Calls.mono HM.out ?_
    rintro e w2 ⟨rfl,h9⟩
    have hb2:Below W.heap.size W w2:=h9 ▸ Below.refl _ _
    clear h9
    have hR2:=HR.out.next hb2
    have z0:=hR2.cell 0 _ rfl
    have z1:=hR2.cell 1 _ rfl
    have z2:=hR2.free 0 (by simp)
    have z3:∀ u,(w2.setCell ⟨w.heap.size,0,none⟩ u).frozen? ⟨w.heap.size,1,none⟩=false:=fun u=>(World.frozen?_setCell _ _ _ _).trans (hR2.free 1 (by simp))
    have o:=fun u v=>((hR2.set 0 (by simp) u).set 1 (by simp) v).two
    have o0:=fun u v=>(o u v).1
    have o1:=fun u v=>(o u v).2.1
    have H2:=hid hb2
    clear hR2 o hb2
    go_wp2_with fail
    refine bodyPost_ret (v:=rv _) (by simp[results,Tryz.results222,go_sem,o0,o1,rv]) rfl ⟨rfl,?_⟩
    exact((HB.out.trans (H2.out.mono HB.out.size)).setCell (Nat.le_refl _) _).setCell (Nat.le_refl _) _)
 ·skip
  subst ha
  have ht:toldOf 5 per (vals L)=(0,(L.length:Int)*1000000):=by rw[toldOf,if_neg (by decide),if_pos rfl,hvl]
  rw[ht]
  have HL:=hid (qLen r q 4096 L W hRg)
  have HWh:=hid (Whole_any (L.length:Int) (by omega) (by omega) W)
  rw[held_in ((L.length:Int)*1000000) (by omega) (by omega)] at HWh
  obtain⟨n,hn⟩:∃ n,n=L.length:=⟨_,rfl⟩
  rw[<-hn] at HL HWh ⊢
  clear ht hvin hvl hlen hfair hRg hn
  go_enter Tryz.func222,Tryz.ntmps222
  go_upto_region 1 with fail
  rw[<-hW]
  clear hW
  go_wp2_with fail
  refine Calls.mono HL.out ?_
  rintro e w2 ⟨rfl,rfl⟩
  go_wp2_with fail
  refine Calls.mono HWh.out ?_
  rintro e w2 ⟨rfl,hb2⟩
  have hR2:=HR.out.next hb2
  have z0:=hR2.cell 0 _ rfl
  have z1:=hR2.cell 1 _ rfl
  have z2:=hR2.free 0 (by simp)
  have z3:∀ u,(w2.setCell ⟨w.heap.size,0,none⟩ u).frozen? ⟨w.heap.size,1,none⟩=false:=fun u=>(World.frozen?_setCell _ _ _ _).trans (hR2.free 1 (by simp))
  have o:=fun u v=>((hR2.set 0 (by simp) u).set 1 (by simp) v).two
  have o0:=fun u v=>(o u v).1
  have o1:=fun u v=>(o u v).2.1
  have H2:=hid hb2
  clear hR2 o hb2
  go_wp2_with fail
  refine bodyPost_ret (v:=rv _) (by simp[results,Tryz.results222,go_sem,o0,o1,rv]) rfl ⟨rfl,?_⟩
  exact((HB.out.trans (H2.out.mono HB.out.size)).setCell (Nat.le_refl _) _).setCell (Nat.le_refl _) _
 ·skip
  subst ha
  obtain⟨-,-,hp,-⟩:=hfair
  obtain⟨p1,p2⟩:=hp rfl
  by_cases hv:vals L=[]
  ·have ht:toldOf 6 per (vals L)=(1,0):=by rw[toldOf,if_neg (by decide),if_neg (by decide),if_pos hv]
   rw[ht]
   rw[hv] at hk
   have HM:=hid (fun n=>rBy_no a c [] per (W.drewN n) (hk.turn (T:=[]) (drewN_turn [] W n) (by simp) (by simp)) (.inl rfl))
   clear ht hk hv hvin hvl hlen hRg hp p1 p2
   go_enter Tryz.func222,Tryz.ntmps222
   go_upto_region 1 with fail
   rw[<-hW]
   clear hW
   go_wp2_with fail
   go_region_with (go_at_call 272;refine Calls.mono (HM.out 1) ?_;rintro e w2 ⟨rfl,h9⟩;have hb2:Below W.heap.size W w2:=h9 ▸ drewN_below W 1;clear h9)
   all_goals (
    have hR2:=HR.out.next hb2
    have z0:=hR2.cell 0 _ rfl
    have z1:=hR2.cell 1 _ rfl
    have z2:=hR2.free 0 (by simp)
    have z3:∀ u,(w2.setCell ⟨w.heap.size,0,none⟩ u).frozen? ⟨w.heap.size,1,none⟩=false:=fun u=>(World.frozen?_setCell _ _ _ _).trans (hR2.free 1 (by simp))
    have o:=fun u v=>((hR2.set 0 (by simp) u).set 1 (by simp) v).two
    have o0:=fun u v=>(o u v).1
    have o1:=fun u v=>(o u v).2.1
    have H2:=hid hb2
    clear hR2 o hb2
    go_wp2_with fail
    refine bodyPost_ret (v:=rv _) (by simp[results,Tryz.results222,go_sem,o0,o1,rv]) rfl ⟨rfl,?_⟩
    exact((HB.out.trans (H2.out.mono HB.out.size)).setCell (Nat.le_refl _) _).setCell (Nat.le_refl _) _)
  ·have hl1:0<(vals L).length:=List.length_pos_iff.2 hv
   obtain⟨n1,n2,-⟩:=nearest_bounds p1 p2 hl1
   obtain⟨y,hy⟩:∃ y,(srtN (vals L))[nearest per (vals L).length-1]? = some y:=⟨_,List.getElem?_eq_getElem (by rw[srt_length];omega)⟩
   have ht:toldOf 6 per (vals L)=(0,y):=by
    rw[toldOf,if_neg (by decide),if_neg (by decide),if_neg hv,if_neg (by decide),if_neg (by decide),if_neg (by decide),hy];rfl
   rw[ht]
   have HM:=hid (fun n=>rBy_yes a c (srtN (vals L)) per y (W.drewN n) (hk.turn (T:=[]) (drewN_turn [] W n) (by simp) (by simp)) p1 p2 (by rw[srt_length,hvl];omega) (by rw[srt_length];exact hy))
   clear ht hk hv hvin hvl hlen hRg hp p1 p2 hl1 n1 n2 hy
   go_enter Tryz.func222,Tryz.ntmps222
   go_upto_region 1 with fail
   rw[<-hW]
   clear hW
   go_wp2_with fail
   go_region_with (go_at_call 272;refine Calls.mono (HM.out 1) ?_;rintro e w2 ⟨rfl,h9⟩;have hb2:Below W.heap.size W w2:=h9 ▸ drewN_below W 1;clear h9)
   all_goals (
    have hR2:=HR.out.next hb2
    have z0:=hR2.cell 0 _ rfl
    have z1:=hR2.cell 1 _ rfl
    have z2:=hR2.free 0 (by simp)
    have z3:∀ u,(w2.setCell ⟨w.heap.size,0,none⟩ u).frozen? ⟨w.heap.size,1,none⟩=false:=fun u=>(World.frozen?_setCell _ _ _ _).trans (hR2.free 1 (by simp))
    have o:=fun u v=>((hR2.set 0 (by simp) u).set 1 (by simp) v).two
    have o0:=fun u v=>(o u v).1
    have o1:=fun u v=>(o u v).2.1
    have H2:=hid hb2
    clear hR2 o hb2
    go_wp2_with fail
    refine bodyPost_ret (v:=rv _) (by simp[results,Tryz.results222,go_sem,o0,o1,rv]) rfl ⟨rfl,?_⟩
    exact((HB.out.trans (H2.out.mono HB.out.size)).setCell (Nat.le_refl _) _).setCell (Nat.le_refl _) _)
def r0:Int×Int:=(0,0)
set_option maxRecDepth 20000 in
set_option maxHeartbeats 1000000 in
theorem wRead_stale (b:Nat)(F:List Nat)(agg span per ck:Int)(L:List Pr)(t:Int)(w:World)(h:Win w b F agg span per ck true L)(ht:t<ck):
 Calls Tryz.prog 131 #[.pointer (some ⟨b,0,none⟩),.int .i64 t] w fun e w'=>e=.returned (.tuple #[rv r0,.int .i64 32])/\Below w.heap.size w w':=by
 obtain⟨hR,hB⟩:=one_box w 72 [.int .i64 0,.int .i64 0]
 have HG:=hid (wGoOn_stale b F agg span per ck L t _ (h.next hB) ht)
 have HB:=hid hB
 have z0:=hR.cell 0 _ rfl
 have z1:=hR.cell 1 _ rfl
 clear h hB ht hR
 go_enter Tryz.func131,Tryz.ntmps131
 go_wp2_with fail
 refine Calls.mono HG.out ?_
 rintro e w1 ⟨rfl,rfl⟩
 go_wp2_with fail
 refine bodyPost_ret (v:=.tuple #[rv r0,.int .i64 32]) (by simp[results,Tryz.results131,go_sem,rv,r0]) rfl ⟨rfl,?_⟩
 exact HB.out
set_option maxRecDepth 20000 in
set_option maxHeartbeats 1000000 in
theorem wRead_nil (t:Int)(w:World):
 Calls Tryz.prog 131 #[.pointer none,.int .i64 t] w fun e w'=>e=.returned (.tuple #[rv r0,.int .i64 4])/\Below w.heap.size w w':=by
 have HB:=hid (one_box w 72 [.int .i64 0,.int .i64 0]).2
 go_enter Tryz.func131,Tryz.ntmps131
 go_wp2_with fail
 refine Calls.mono (wGoOn_nil t _) ?_
 rintro e w1 ⟨rfl,rfl⟩
 go_wp2_with fail
 refine bodyPost_ret (v:=.tuple #[rv r0,.int .i64 4]) (by simp[results,Tryz.results131,go_sem,rv,r0]) rfl ⟨rfl,?_⟩
 exact HB.out
set_option maxRecDepth 20000 in
set_option maxHeartbeats 1000000 in
theorem wRead_zero (b:Nat)(vs:List Value)(t:Int)(w:World)(h:Box w b (.pointer none::vs)):
 Calls Tryz.prog 131 #[.pointer (some ⟨b,0,none⟩),.int .i64 t] w fun e w'=>e=.returned (.tuple #[rv r0,.int .i64 4])/\Below w.heap.size w w':=by
 obtain⟨hR,hB⟩:=one_box w 72 [.int .i64 0,.int .i64 0]
 have HG:=hid (wGoOn_zero b vs t _ (h.next hB))
 have HB:=hid hB
 clear h hB hR
 go_enter Tryz.func131,Tryz.ntmps131
 go_wp2_with fail
 refine Calls.mono HG.out ?_
 rintro e w1 ⟨rfl,rfl⟩
 go_wp2_with fail
 refine bodyPost_ret (v:=.tuple #[rv r0,.int .i64 4]) (by simp[results,Tryz.results131,go_sem,rv,r0]) rfl ⟨rfl,?_⟩
 exact HB.out
theorem Gone.and {w w0 w1 w2:World}{b:Nat}{F:List Nat}{agg span per t:Int}{L:List Pr}{S:List Nat}(hB:Below w.heap.size w w0)(h:Gone w0 b F agg span per t L w1)(t2:Turn S w1 w2)(hS:∀ i,i∈S->i<w0.heap.size/\w.heap.size<=i)(hF:∀ i,i∈F->i<w.heap.size):Gone w b F agg span per t L w2:=by
 obtain⟨F',h1,h2,h3⟩:=h
 have hs:=hB.size
 refine⟨F',h1.turn t2 (fun i hi hm=>?_),((Turn.of_below hB).trans h2 (fun i hi=>.inl hi)).trans t2 (fun i hi=>.inr (hS i hi).2),fun i hi=>(h3 i hi).imp_right (fun e=>by omega)⟩
 ·obtain⟨s1,s2⟩:=hS i hm
  rcases h3 i hi with h | h
  ·have:=hF i h;omega
  ·omega
set_option maxRecDepth 20000 in
set_option maxHeartbeats 1000000 in
theorem wRead (b:Nat)(F:List Nat)(agg span per ck:Int)(on:Bool)(L:List Pr)(t:Int)(w:World)(h:Win w b F agg span per ck on L)(ht:In64 t)(hs:on=true->ck<=t):
 Calls Tryz.prog 131 #[.pointer (some ⟨b,0,none⟩),.int .i64 t] w fun e w'=>e=.returned (.tuple #[rv (toldOf agg per (vals (fresh span t L))),.int .i64 0])/\Gone w b F agg span per t (fresh span t L) w':=by
 obtain⟨hR,hB⟩:=one_box w 72 [.int .i64 0,.int .i64 0]
 have HG:=hid (wGoOn b F agg span per ck on L t _ (h.next hB) ht hs)
 have HB:=hid hB
 have HR:=hid hR
 have HFl:=hid h.lt
 generalize hM:fresh span t L=M at *
 generalize hx:toldOf agg per (vals M)=x
 have HXX:=hid hx
 clear h hB hR hs hM hx
 go_enter Tryz.func131,Tryz.ntmps131
 go_wp2_with fail
 refine Calls.mono HG.out ?_
 rintro e w1 ⟨rfl,hG⟩
 have hT:Calls Tryz.prog 222 #[.pointer (some ⟨b,0,none⟩)] w1 fun e w'=>e=.returned (rv x)/\Below w1.heap.size w1 w':=by
  rw[<-HXX.out]
  obtain⟨F',⟨r,q,A,sp,mp,op,rfl,h1⟩,_,_⟩:=hG
  exact wTold b r q A sp mp op agg span per t true M w1 h1
 have hR1:Box w1 w.heap.size [.int .i64 0,.int .i64 0]:=by
  obtain⟨F',_,h2,_⟩:=hG
  exact HR.out.turn h2 (fun hm=>by have:=HFl.out _ hm;omega)
 have HT:=hid hT
 have HG1:=hid hG
 have HR1:=hid hR1
 clear hT hG hR1 HG
 go_wp2_with fail
 refine Calls.mono HT.out ?_
 rintro e w2 ⟨rfl,hb2⟩
 have hR2:=HR1.out.next hb2
 have z0:=hR2.cell 0 _ rfl
 have z1:=hR2.cell 1 _ rfl
 have z2:=hR2.free 0 (by simp)
 have z3:∀ u,(w2.setCell ⟨w.heap.size,0,none⟩ u).frozen? ⟨w.heap.size,1,none⟩=false:=fun u=>(World.frozen?_setCell _ _ _ _).trans (hR2.free 1 (by simp))
 have o:=fun u v=>((hR2.set 0 (by simp) u).set 1 (by simp) v).two
 have o0:=fun u v=>(o u v).1
 have o1:=fun u v=>(o u v).2.1
 have H2:=hid hb2
 clear hR2 o hb2
 simp only[rv]
 go_wp2_with fail
 refine bodyPost_ret (v:=.tuple #[.agg #[.int .i64 x.1,.int .i64 x.2],.int .i64 0]) (by simp[results,Tryz.results131,go_sem,o0,o1]) rfl ⟨rfl,?_⟩
 exact Gone.and HB.out HG1.out (S:=[w.heap.size]) (((Turn.of_below H2.out).andSet _ _ (.inl (by simp))).andSet _ _ (.inl (by simp))) (fun i hi=>by simp at hi;subst hi;simp) HFl.out
def NewWin (w:World)(a s p:Int)(e:Ending)(w':World):Prop:=∃ b F,e=.returned (.tuple #[.pointer (some ⟨b,0,none⟩),.int .i64 0])/\Win w' b F a s p 0 false []/\(∀ i,i∈F->w.heap.size<=i)/\Below w.heap.size w w'
set_option maxRecDepth 20000 in
set_option maxHeartbeats 1000000 in
theorem wNew_no (m a s p:Int)(w:World)(h:¬ RightT m a s p):
 Calls Tryz.prog 129 #[tv m a s p] w fun e w'=>e=.returned (.tuple #[.pointer none,.int .i64 3])/\Below w.heap.size w w':=by
 obtain⟨hR,hB⟩:=one_box w 98 [.int .i64 m,.int .i64 a,.int .i64 s,.int .i64 p]
 have HB:=hid hB
 obtain⟨d0,d1,d2,d3,-,-,-,-⟩:=hR.four
 have hd:rightB m a s p=false:=rightB_no h
 clear h hB hR
 obtain⟨W,hW⟩:∃ W,W=w.alloc (.cells #[.int .i64 m,.int .i64 a,.int .i64 s,.int .i64 p] 98):=⟨_,rfl⟩
 have HC:=hid (wRight m a s p W)
 rw[hd] at HC
 clear hd
 simp only[tv] at HC ⊢
 rw[<-hW] at d0 d1 d2 d3 HB
 go_enter Tryz.func129,Tryz.ntmps129
 go_upto_region 1 with fail
 rw[<-hW]
 clear hW
 go_wp2_with fail
 refine Calls.mono HC.out ?_
 rintro e w1 ⟨rfl,hb1⟩
 have H1:=hid hb1
 clear hb1
 go_wp2_with fail
 go_ret2
 exact⟨rfl,HB.out.trans (H1.out.mono HB.out.size)⟩
theorem win_made {w4 w5:World}{b r:Nat}{A:List Nat}{sp mp op:Option Addr}{a s p:Int}(hx5:Box w5 b [.pointer (some ⟨r,0,none⟩),.int .i64 a,.int .i64 s,.int .i64 p,.int .i64 0,.bool false,.pointer sp,.pointer mp,.pointer op])(t:Turn [b] w4 w5)(hr:Rq w4 r r 4096 [])(ha:Aux w4 [] a sp mp op A)(hrb:r<b)(hA:∀ i,i∈A->b<i)(hf:Fair a s p):Win w5 b (b::r::r::A) a s p 0 false []:=by
 have n1:b∉A:=fun hm=>by have:=hA b hm;omega
 have n2:r∉A:=fun hm=>by have:=hA r hm;omega
 exact⟨r,r,A,sp,mp,op,rfl,hx5,hr.turn t (by simp;omega) (by simp;omega),ha.turn t (fun i hi=>by have:=hA i hi;simp;omega),by omega,by omega,n1,n2,n2,by simp,hf,⟨by decide,by decide⟩⟩
theorem sum_made {w w3:World}{b r:Nat}{a s p:Int}(ha:a=1\/a=2)(hx:Box w3 b [.pointer (some ⟨r,0,none⟩),.int .i64 a,.int .i64 s,.int .i64 p,.int .i64 0,.bool false,.pointer none,.pointer none,.pointer none])(hr:Rq w3 r r 4096 [])(hB:Below w.heap.size w w3)(hrb:r<b)(hb:b<w3.heap.size)(hw:w.heap.size<=r)(hf:Fair a s p):
 NewWin w a s p (.returned (.tuple #[.pointer (some ⟨b,0,none⟩),.int .i64 0])) ((w3.setCell ⟨b,6,none⟩ (.pointer (some ⟨w3.heap.size,0,none⟩))).alloc (.cells #[.int .u64 0,.int .u64 0] 222)):=by
 have hs:(w3.setCell ⟨b,6,none⟩ (.pointer (some ⟨w3.heap.size,0,none⟩))).heap.size=w3.heap.size:=by simp[World.setCell]
 have hx4:Box (w3.setCell ⟨b,6,none⟩ (.pointer (some ⟨w3.heap.size,0,none⟩))) b [.pointer (some ⟨r,0,none⟩),.int .i64 a,.int .i64 s,.int .i64 p,.int .i64 0,.bool false,.pointer (some ⟨w3.heap.size,0,none⟩),.pointer none,.pointer none]:=by simpa using hx.set 6 (by simp) (.pointer (some ⟨w3.heap.size,0,none⟩))
 have hr4:Rq (w3.setCell ⟨b,6,none⟩ (.pointer (some ⟨w3.heap.size,0,none⟩))) r r 4096 []:=hr.turn (S:=[b]) (Turn.set _ _ _ (by simp)) (by simp;omega) (by simp;omega)
 have hB4:Below w.heap.size w (w3.setCell ⟨b,6,none⟩ (.pointer (some ⟨w3.heap.size,0,none⟩))):=hB.setCell (by show w.heap.size<=b;omega) _
 generalize w3.setCell ⟨b,6,none⟩ (.pointer (some ⟨w3.heap.size,0,none⟩))=W at *
 rw[<-hs] at hx4 hb
 clear hs hr hx
 have hn:=Box.new W [.int .u64 0,.int .u64 0] 222
 have hb4:Below W.heap.size W (W.alloc (.cells #[.int .u64 0,.int .u64 0] 222)):=(Below.refl _ _).alloc (Nat.le_refl _) _
 refine⟨b,_,rfl,win_made (sp:=some ⟨W.heap.size,0,none⟩) (mp:=none) (op:=none) (A:=[W.heap.size]) (hx4.next hb4) (Turn.refl _ _) (hr4.next hb4) (.sum W.heap.size 0 0 ha hn rep_zero) hrb (by simp;omega) hf,?_,?_⟩
 ·intro i hi;simp at hi;omega
 ·exact hB4.trans (hb4.mono hB4.size)
set_option maxRecDepth 20000 in
set_option maxHeartbeats 4000000 in
theorem wNew (m a s p:Int)(w:World)(h:RightT m a s p)(hp:In64 p):
 Calls Tryz.prog 129 #[tv m a s p] w (NewWin w a s p):=by
 obtain⟨hR,hB⟩:=one_box w 98 [.int .i64 m,.int .i64 a,.int .i64 s,.int .i64 p]
 have HB:=hid hB
 have HR:=hid hR
 obtain⟨d0,d1,d2,d3,-,-,-,-⟩:=hR.four
 have hd:rightB m a s p=true:=rightB_yes h
 obtain⟨W,hW⟩:∃ W,W=w.alloc (.cells #[.int .i64 m,.int .i64 a,.int .i64 s,.int .i64 p] 98):=⟨_,rfl⟩
 have HC:=hid (wRight m a s p W)
 rw[hd] at HC
 simp only[tv] at HC ⊢
 rw[<-hW] at d0 d1 d2 d3 HB HR
 obtain⟨-,a1,a2,s1,s2,q1,-⟩:=h
 have hfair:Fair a s p:=⟨s1,s2,q1,hp⟩
 have HFa:=hid hfair
 have hsz:W.heap.size=w.heap.size+1:=by rw[hW];simp
 clear hB hR hd s1 s2 q1 hfair hp
 go_enter Tryz.func129,Tryz.ntmps129
 go_upto_region 1 with fail
 rw[<-hW]
 clear hW
 go_wp2_with fail
 refine Calls.mono HC.out ?_
 rintro e w1 ⟨rfl,hb1⟩
 have H1:=hid hb1
 have hs1:=hb1.size
 clear hb1
 go_wp2_with fail
 refine Calls.mono (qNew_yes 4096 w1 (by decide) (Nat.le_refl _)) ?_
 rintro e w2 ⟨rfl,hr2,hb2⟩
 have hRR:=(HR.out.next H1.out).next (w':=w2) (hb2.mono (Nat.le_refl _))
 have hrl:=hr2.lt
 clear d0 d1 d2 d3
 obtain⟨d0,d1,d2,d3,-,-,-,-⟩:=hRR.four
 have H2:=hid hb2
 have HRg:=hid hr2
 have hlt2:=hRR.lt
 clear hb2 hr2 hRR
 have hx3:=Box.new w2 [.pointer (some ⟨w1.heap.size,0,none⟩),.int .i64 a,.int .i64 s,.int .i64 p,.int .i64 0,.bool false,.pointer none,.pointer none,.pointer none] 218
 have hb3:Below w2.heap.size w2 (w2.alloc (.cells #[.pointer (some ⟨w1.heap.size,0,none⟩),.int .i64 a,.int .i64 s,.int .i64 p,.int .i64 0,.bool false,.pointer none,.pointer none,.pointer none] 218)):=(Below.refl _ _).alloc (Nat.le_refl _) _
 obtain⟨w3,hw3⟩:∃ w3,w3=w2.alloc (.cells #[.pointer (some ⟨w1.heap.size,0,none⟩),.int .i64 a,.int .i64 s,.int .i64 p,.int .i64 0,.bool false,.pointer none,.pointer none,.pointer none] 218):=⟨_,rfl⟩
 have hs3:w3.heap.size=w2.heap.size+1:=by rw[hw3];simp
 go_upto_region 7 with fail
 rw[<-hw3] at hx3 hb3 ⊢
 have hr3:=HRg.out.next hb3
 have e1:=(hb3.cell (p:=⟨w.heap.size,1,none⟩) hlt2).trans d1
 have hlt3:=hx3.lt
 have hlt4:w.heap.size<w3.heap.size:=by omega
 have x6:=hx3.cell 6 _ rfl
 have x7:=hx3.cell 7 _ rfl
 have x8:=hx3.cell 8 _ rfl
 have y6:=hx3.free 6 (by simp)
 have y7:=hx3.free 7 (by simp)
 have y8:=hx3.free 8 (by simp)
 have HX3:=hid hx3
 have HR3:=hid hr3
 have hB3:Below w.heap.size w w3:=((HB.out.trans (H1.out.mono HB.out.size)).trans (H2.out.mono (by omega))).trans (hb3.mono (by omega))
 have HB3:=hid hB3
 have HS3:=hid hs3
 clear hb3 hx3 hr3 d0 d1 d2 d3 hw3 H2 HRg hB3 hs3
 obtain rfl | rfl | rfl | rfl | rfl | rfl:a=1\/a=2\/a=3\/a=4\/a=5\/a=6:=by omega
 ·have hb4:Below w3.heap.size w3 (w3.alloc (.cells #[.int .u64 0,.int .u64 0] 222)):=(Below.refl _ _).alloc (Nat.le_refl _) _
  have u6:=(hb4.cell (p:=⟨w2.heap.size,6,none⟩) hlt3).trans x6
  have v6:=(hb4.frozen (p:=⟨w2.heap.size,6,none⟩) hlt3).trans y6
  clear hb4
  go_wp2_with fail
  go_ret2
  have hs3:=HS3.out
  exact sum_made (by decide) HX3.out HR3.out HB3.out (by omega) (by omega) (by omega) HFa.out
 ·have hb4:Below w3.heap.size w3 (w3.alloc (.cells #[.int .u64 0,.int .u64 0] 222)):=(Below.refl _ _).alloc (Nat.le_refl _) _
  have u6:=(hb4.cell (p:=⟨w2.heap.size,6,none⟩) hlt3).trans x6
  have v6:=(hb4.frozen (p:=⟨w2.heap.size,6,none⟩) hlt3).trans y6
  clear hb4
  go_wp2_with fail
  go_ret2
  have hs3:=HS3.out
  exact sum_made (by decide) HX3.out HR3.out HB3.out (by omega) (by omega) (by omega) HFa.out
 ·go_wp2_with fail
  refine Calls.mono (mNew false w3) ?_
  rintro e w4 ⟨rfl,hm4,hb4⟩
  have u7:=(hb4.cell (p:=⟨w2.heap.size,7,none⟩) hlt3).trans x7
  have v7:=(hb4.frozen (p:=⟨w2.heap.size,7,none⟩) hlt3).trans y7
  have hlt5:=Nat.lt_of_lt_of_le hlt3 hb4.size
  have HN:=hid hm4
  have HB4:=hid hb4
  clear hm4 hb4
  go_wp2_with fail
  go_ret2
  refine⟨w2.heap.size,_,rfl,win_made (w4:=w4) (sp:=none) (mp:=some ⟨w3.heap.size,0,none⟩) (op:=none) (A:=[w3.heap.size,w3.heap.size]) (by simpa using (HX3.out.next HB4.out).set 7 (by simp) (.pointer (some ⟨w3.heap.size,0,none⟩))) (Turn.set _ _ _ (by simp)) (HR3.out.next HB4.out) (.best w3.heap.size w3.heap.size false (by decide) HN.out) (by omega) (by have hs3:=HS3.out;simp;omega) HFa.out,?_,?_⟩
  ·intro i hi;have hs3:=HS3.out;simp at hi;omega
  ·exact(HB3.out.trans (HB4.out.mono HB3.out.size)).setCell (by simp;omega) _
 ·go_wp2_with fail
  refine Calls.mono (mNew true w3) ?_
  rintro e w4 ⟨rfl,hm4,hb4⟩
  have u7:=(hb4.cell (p:=⟨w2.heap.size,7,none⟩) hlt3).trans x7
  have v7:=(hb4.frozen (p:=⟨w2.heap.size,7,none⟩) hlt3).trans y7
  have hlt5:=Nat.lt_of_lt_of_le hlt3 hb4.size
  have HN:=hid hm4
  have HB4:=hid hb4
  clear hm4 hb4
  go_wp2_with fail
  go_ret2
  refine⟨w2.heap.size,_,rfl,win_made (w4:=w4) (sp:=none) (mp:=some ⟨w3.heap.size,0,none⟩) (op:=none) (A:=[w3.heap.size,w3.heap.size]) (by simpa using (HX3.out.next HB4.out).set 7 (by simp) (.pointer (some ⟨w3.heap.size,0,none⟩))) (Turn.set _ _ _ (by simp)) (HR3.out.next HB4.out) (.best w3.heap.size w3.heap.size true (by decide) HN.out) (by omega) (by have hs3:=HS3.out;simp;omega) HFa.out,?_,?_⟩
  ·intro i hi;have hs3:=HS3.out;simp at hi;omega
  ·exact(HB3.out.trans (HB4.out.mono HB3.out.size)).setCell (by simp;omega) _
 ·go_wp2_with fail
  go_ret2
  refine⟨w2.heap.size,_,rfl,win_made (w4:=w3) (sp:=none) (mp:=none) (op:=none) (A:=[]) HX3.out (Turn.refl _ _) HR3.out (.count rfl) (by omega) (by simp) HFa.out,?_,?_⟩
  ·intro i hi;have hs3:=HS3.out;simp at hi;omega
  ·exact HB3.out
 ·go_wp2_with fail
  refine Calls.mono (rNew w3) ?_
  rintro e w4 ⟨rfl,hm4,hb4⟩
  have u8:=(hb4.cell (p:=⟨w2.heap.size,8,none⟩) hlt3).trans x8
  have v8:=(hb4.frozen (p:=⟨w2.heap.size,8,none⟩) hlt3).trans y8
  have hlt5:=Nat.lt_of_lt_of_le hlt3 hb4.size
  have HN:=hid hm4
  have HB4:=hid hb4
  clear hm4 hb4
  go_wp2_with fail
  go_ret2
  refine⟨w2.heap.size,_,rfl,win_made (w4:=w4) (sp:=none) (mp:=none) (op:=some ⟨w3.heap.size,0,none⟩) (A:=[w3.heap.size,w3.heap.size]) (by simpa using (HX3.out.next HB4.out).set 8 (by simp) (.pointer (some ⟨w3.heap.size,0,none⟩))) (Turn.set _ _ _ (by simp)) (HR3.out.next HB4.out) (.rank w3.heap.size w3.heap.size rfl HN.out) (by omega) (by have hs3:=HS3.out;simp;omega) HFa.out,?_,?_⟩
  ·intro i hi;have hs3:=HS3.out;simp at hi;omega
  ·exact(HB3.out.trans (HB4.out.mono HB3.out.size)).setCell (by simp;omega) _
end Go.Proofs.YtepncopdjodfgaaGreatDoor

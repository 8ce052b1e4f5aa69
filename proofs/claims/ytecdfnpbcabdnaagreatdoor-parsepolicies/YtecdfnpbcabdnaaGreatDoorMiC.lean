import Derived.Test.YtecdfnpbcabdnaaGreatDoorMiB
import Derived.Great.BuildSlice
namespace Go.Proofs.YtecdfnpbcabdnaaGreatDoor
open Go.RowKit Go.Lib
set_option maxHeartbeats 4000000 in
set_option maxRecDepth 20000 in
theorem act_hold {z rb tb lb:Nat}{c:Int}{L:List Tk}{o:Nat}(hz:z<=9223372036854775807){t0:Tk}(hx:nxt c L=.ok t0)(h0:isT k_hold t0=true)(w:World)(hr:Rea z w rb tb lb c L o):
 Calls Tryz.prog 53 #[.pointer (some ⟨rb,0,none⟩)] w (Out (VTm w.heap.size z) z w rb tb lb c o ((.ok (tm 33 t0.at_ [],L.tail):Rs Tm))):=by
 obtain⟨pr,hpr⟩:∃ pr,Hid (pr=(.ok (tm 33 t0.at_ [],L.tail):Rs Tm)):=⟨_,rfl⟩
 rw[<-hpr.out]
 have hE:Hid (∀ f w',pr=.error f->Turn [rb] w w'->Out (VTm w.heap.size z) z w rb tb lb c o pr (.panicked [fltE f]) w'):=fun f w' h ht=>Out.mk_err h ht
 have hO:Hid (∀ t L' w' v u,pr=.ok (t,L')->Turn [rb] w w'->v=tmV t u->SitB w.heap.size z w' t u->Rea z w' rb tb lb c L' o->Out (VTm w.heap.size z) z w rb tb lb c o pr (.returned v) w'):=fun t L' w' v u h ht hv hs hr'=>Out.mk_ok h ht ⟨u,hv,hs⟩ hr'
 generalize Out (VTm w.heap.size z) z w rb tb lb c o pr=Post at *
 have hL:=hr.lts
 have hne:w.heap.size∉[rb]:=by simp;omega
 have hok:=hr.tl.ok
 rw[<-nxt_inv hx] at hok
 have hm1:=mustS_of hx h0
 have Z0:=Box.new w zs6 33
 go_enter Tryz.func53,Tryz.ntmps53
 go_wp2_with fail
 have T0:=tnO (ob:=.cells (zs6).toArray 33) (Turn.refl [rb] w)
 have r0:=hr.onO (ob:=.cells (zs6).toArray 33)
 have Rs0:=Z0
 have zsz:w.heap.size<(w.alloc (.cells (zs6).toArray 33)).heap.size:=by simp
 have hz0:(w.alloc (.cells (zs6).toArray 33)).heap.size=w.heap.size+1:=by simp
 clear Z0
 generalize hW0:w.alloc _=w0 at *
 clear hW0
 clear hz0
 clear hr
 have HJ0:=fun W h=>is_ok (z:=z) (rb:=rb) (tb:=tb) (lb:=lb) (o:=o) hx k_hold W h
 rw[h0] at HJ0
 refine Calls.mono (HJ0 _ r0) ?_
 rintro e w1 ⟨rfl,b1⟩
 have t1:=Turn.of_below (S:=[rb]) b1
 have r1:=r0.next b1
 have Rs1:=Rs0.turn t1 hne
 have T1:=tn T0 t1
 have s1:=t1.size
 clear Rs0 T0 r0 b1 t1
 go_wp2_with fail
 refine Calls.mono (must_c k_hold _ r1) ?_
 rintro e w2 h2
 obtain⟨t2,_,rfl,rfl,r2⟩:=Out.of_ok hm1 h2
 have Rs2:=Rs1.turn t2 hne
 have T2:=tn T1 t2
 have s2:=t2.size
 clear Rs1 T1 r1 h2 t2
 go_wp2_with fail
 refine Calls.mono (term_c _ _ _ _ _ _) ?_
 rintro e w3 ⟨rfl,b3⟩
 have t3:=Turn.of_below (S:=[rb]) b3
 have r3:=r2.next b3
 have Rs3:=Rs2.turn t3 hne
 have T3:=tn T2 t3
 have s3:=t3.size
 clear Rs2 T2 r2 b3 t3
 obtain⟨p0,p1,p2,p3,p4,p5,pf0,pf1,pf2,pf3,pf4,pf5⟩:=Rs3.six
 have pl:=Rs3.lt
 go_wp2_with fail
 refine bodyPost_ret (v:=tmV (tm 33 t0.at_ []) (.slice none 0 0)) (by simp[results,Tryz.results53,go_sem, *]) rfl (hO.out (tm 33 t0.at_ []) (L.tail) _ _ (.slice none 0 0) (hpr.out) ?_ rfl ?_ ?_)
 ·exact T3.trans (turn_six _ _ _ _ _ _ _ _) (fun i hi=>.inr (by simp at hi;omega))
 ·exact sitb_leaf (fit_of _ _ _ _ _ _ hz (by decide) (by decide) (Nat.zero_le _) zero64 zero64 hok.a) rfl
 ·exact r3.turn1 (turn_six _ _ _ _ _ _ _ _) hL
set_option maxHeartbeats 4000000 in
set_option maxRecDepth 20000 in
theorem act_to {z rb tb lb:Nat}{c:Int}{L:List Tk}{o:Nat}(hz:z<=9223372036854775807){E:Ps}(HE:ExC z rb tb lb c o 21 E){t0:Tk}(hx:nxt c L=.ok t0)(h0:isT k_hold t0=false)(h1:isT k_to t0=true)(w:World)(hr:Rea z w rb tb lb c L o):
 Calls Tryz.prog 53 #[.pointer (some ⟨rb,0,none⟩)] w (Out (VTm w.heap.size z) z w rb tb lb c o (bnd (E L.tail) fun y=>.ok (tm 34 t0.at_ [y.1],y.2))):=by
 obtain⟨pr,hpr⟩:∃ pr,Hid (pr=bnd (E L.tail) fun y=>.ok (tm 34 t0.at_ [y.1],y.2)):=⟨_,rfl⟩
 rw[<-hpr.out]
 have hE:Hid (∀ f w',pr=.error f->Turn [rb] w w'->Out (VTm w.heap.size z) z w rb tb lb c o pr (.panicked [fltE f]) w'):=fun f w' h ht=>Out.mk_err h ht
 have hO:Hid (∀ t L' w' v u,pr=.ok (t,L')->Turn [rb] w w'->v=tmV t u->SitB w.heap.size z w' t u->Rea z w' rb tb lb c L' o->Out (VTm w.heap.size z) z w rb tb lb c o pr (.returned v) w'):=fun t L' w' v u h ht hv hs hr'=>Out.mk_ok h ht ⟨u,hv,hs⟩ hr'
 generalize Out (VTm w.heap.size z) z w rb tb lb c o pr=Post at *
 have hL:=hr.lts
 have hne:w.heap.size∉[rb]:=by simp;omega
 have hok:=hr.tl.ok
 rw[<-nxt_inv hx] at hok
 have hm1:=mustS_of hx h1
 have Z0:=Box.new w zs6 33
 go_enter Tryz.func53,Tryz.ntmps53
 go_wp2_with fail
 have T0:=tnO (ob:=.cells (zs6).toArray 33) (Turn.refl [rb] w)
 have r0:=hr.onO (ob:=.cells (zs6).toArray 33)
 have Rs0:=Z0
 have zsz:w.heap.size<(w.alloc (.cells (zs6).toArray 33)).heap.size:=by simp
 have hz0:(w.alloc (.cells (zs6).toArray 33)).heap.size=w.heap.size+1:=by simp
 clear Z0
 generalize hW0:w.alloc _=w0 at *
 clear hW0
 clear hz0
 clear hr
 have HJ0:=fun W h=>is_ok (z:=z) (rb:=rb) (tb:=tb) (lb:=lb) (o:=o) hx k_hold W h
 rw[h0] at HJ0
 refine Calls.mono (HJ0 _ r0) ?_
 rintro e w1 ⟨rfl,b1⟩
 have t1:=Turn.of_below (S:=[rb]) b1
 have r1:=r0.next b1
 have Rs1:=Rs0.turn t1 hne
 have T1:=tn T0 t1
 have s1:=t1.size
 clear Rs0 T0 r0 b1 t1
 go_wp2_with fail
 have HJ1:=fun W h=>is_ok (z:=z) (rb:=rb) (tb:=tb) (lb:=lb) (o:=o) hx k_to W h
 rw[h1] at HJ1
 refine Calls.mono (HJ1 _ r1) ?_
 rintro e w2 ⟨rfl,b2⟩
 have t2:=Turn.of_below (S:=[rb]) b2
 have r2:=r1.next b2
 have Rs2:=Rs1.turn t2 hne
 have T2:=tn T1 t2
 have s2:=t2.size
 clear Rs1 T1 r1 b2 t2
 go_wp2_with fail
 refine Calls.mono (must_c k_to _ r2) ?_
 rintro e w3 h3
 obtain⟨t3,_,rfl,rfl,r3⟩:=Out.of_ok hm1 h3
 have Rs3:=Rs2.turn t3 hne
 have T3:=tn T2 t3
 have s3:=t3.size
 clear Rs2 T2 r2 h3 t3
 go_wp2_with fail
 refine Calls.mono (HE _ _ r3) ?_
 rintro e w4 h4
 rcases hy1:E L.tail with f | q
 ·obtain⟨rfl,t4⟩:=Out.of_err hy1 h4
  go_wp2_with fail
  exact⟨rfl,hE.out _ _ (by rw[hpr.out,hy1];rfl) (tn T3 t4)⟩
 obtain⟨t4,_,rfl,⟨u4,rfl,S4⟩,r4⟩:=Out.of_ok hy1 h4
 have Rs4:=Rs3.turn t4 hne
 have T4:=tn T3 t4
 have s4:=t4.size
 clear Rs3 T3 r3 h4 t4
 have hpr1:Hid (pr=.ok (tm 34 t0.at_ [q.1],q.2)):=by show _=_;rw[hpr.out,hy1];rfl
 simp only[tmV]
 obtain⟨av,cv,hu,-,-⟩:=S4.parts.shape
 subst hu
 generalize hnn:q.1.parts.length=nn at *
 go_wp2_with fail
 have t5:=tnO (ob:=.cells ((tmL q.1 (.slice av nn cv))).toArray 33) (Turn.refl [rb] w4)
 have r5:=r4.onO (ob:=.cells ((tmL q.1 (.slice av nn cv))).toArray 33)
 have Lt5:=Box.new w4 (tmL q.1 (.slice av nn cv)) 33
 have hnLt:w4.heap.size∉[rb]:=by simp;omega
 have hxLt:w4.heap.size<(w4.alloc (.cells ((tmL q.1 (.slice av nn cv))).toArray 33)).heap.size:=by simp
 have Rs5:=Rs4.turn t5 hne
 have S5:=SitB.turn S4 t5 (by simp;omega)
 have T5:=tn T4 t5
 have s5:=t5.size
 clear Rs4 S4 T4 r4 t5
 generalize hW5:w4.alloc _=w5 at *
 clear hW5
 refine Calls.mono (term_c _ _ _ _ _ _) ?_
 rintro e w6 ⟨rfl,b6⟩
 have t6:=Turn.of_below (S:=[rb]) b6
 have r6:=r5.next b6
 have Rs6:=Rs5.turn t6 hne
 have Lt6:=Lt5.turn t6 hnLt
 have S6:=SitB.turn S5 t6 (by simp;omega)
 have T6:=tn T5 t6
 have s6:=t6.size
 clear Rs5 Lt5 S5 T5 r5 b6 t6
 obtain⟨p0,p1,p2,p3,p4,p5,pf0,pf1,pf2,pf3,pf4,pf5⟩:=Rs6.six
 have pl:=Rs6.lt
 have HS:=hid2 S6
 have HB:=hid2 Lt6
 clear S6
 have hg:w4.heap.size≠w.heap.size:=by omega
 go_wp2_with fail
 refine bodyPost_ret (v:=tmV (tm 34 t0.at_ [q.1]) (.slice (some ⟨w4.heap.size,0,none⟩) 1 1)) (by simp[results,Tryz.results53,go_sem, *]) rfl (hO.out (tm 34 t0.at_ [q.1]) (q.2) _ _ (.slice (some ⟨w4.heap.size,0,none⟩) 1 1) (hpr1.out) ?_ rfl ?_ ?_)
 ·exact T6.trans (turn_six _ _ _ _ _ _ _ _) (fun i hi=>.inr (by simp at hi;omega))
 ·exact sitb_one (fit_of _ _ _ _ _ _ hz (by decide) (by decide) (Nat.zero_le _) zero64 zero64 hok.a) rfl (by simpa using HB.out.lt) (by omega) (box_six (HB.out.turn (turn_six _ _ _ _ _ _ _ _) (by simp;omega))) (SitB.lower (SitB.turn HS.out (turn_six _ _ _ _ _ _ _ _) (by simp;omega)) (by omega))
 ·exact r6.turn1 (turn_six _ _ _ _ _ _ _ _) hL
set_option maxHeartbeats 4000000 in
set_option maxRecDepth 20000 in
theorem act_by {z rb tb lb:Nat}{c:Int}{L:List Tk}{o:Nat}(hz:z<=9223372036854775807){E:Ps}(HE:ExC z rb tb lb c o 21 E){t0:Tk}(hx:nxt c L=.ok t0)(h0:isT k_hold t0=false)(h1:isT k_to t0=false)(h2:isT k_by t0=true)(w:World)(hr:Rea z w rb tb lb c L o):
 Calls Tryz.prog 53 #[.pointer (some ⟨rb,0,none⟩)] w (Out (VTm w.heap.size z) z w rb tb lb c o (bnd (E L.tail) fun y=>.ok (tm 35 t0.at_ [y.1],y.2))):=by
 obtain⟨pr,hpr⟩:∃ pr,Hid (pr=bnd (E L.tail) fun y=>.ok (tm 35 t0.at_ [y.1],y.2)):=⟨_,rfl⟩
 rw[<-hpr.out]
 have hE:Hid (∀ f w',pr=.error f->Turn [rb] w w'->Out (VTm w.heap.size z) z w rb tb lb c o pr (.panicked [fltE f]) w'):=fun f w' h ht=>Out.mk_err h ht
 have hO:Hid (∀ t L' w' v u,pr=.ok (t,L')->Turn [rb] w w'->v=tmV t u->SitB w.heap.size z w' t u->Rea z w' rb tb lb c L' o->Out (VTm w.heap.size z) z w rb tb lb c o pr (.returned v) w'):=fun t L' w' v u h ht hv hs hr'=>Out.mk_ok h ht ⟨u,hv,hs⟩ hr'
 generalize Out (VTm w.heap.size z) z w rb tb lb c o pr=Post at *
 have hL:=hr.lts
 have hne:w.heap.size∉[rb]:=by simp;omega
 have hok:=hr.tl.ok
 rw[<-nxt_inv hx] at hok
 have hm1:=mustS_of hx h2
 have Z0:=Box.new w zs6 33
 go_enter Tryz.func53,Tryz.ntmps53
 go_wp2_with fail
 have T0:=tnO (ob:=.cells (zs6).toArray 33) (Turn.refl [rb] w)
 have r0:=hr.onO (ob:=.cells (zs6).toArray 33)
 have Rs0:=Z0
 have zsz:w.heap.size<(w.alloc (.cells (zs6).toArray 33)).heap.size:=by simp
 have hz0:(w.alloc (.cells (zs6).toArray 33)).heap.size=w.heap.size+1:=by simp
 clear Z0
 generalize hW0:w.alloc _=w0 at *
 clear hW0
 clear hz0
 clear hr
 have HJ0:=fun W h=>is_ok (z:=z) (rb:=rb) (tb:=tb) (lb:=lb) (o:=o) hx k_hold W h
 rw[h0] at HJ0
 refine Calls.mono (HJ0 _ r0) ?_
 rintro e w1 ⟨rfl,b1⟩
 have t1:=Turn.of_below (S:=[rb]) b1
 have r1:=r0.next b1
 have Rs1:=Rs0.turn t1 hne
 have T1:=tn T0 t1
 have s1:=t1.size
 clear Rs0 T0 r0 b1 t1
 go_wp2_with fail
 have HJ1:=fun W h=>is_ok (z:=z) (rb:=rb) (tb:=tb) (lb:=lb) (o:=o) hx k_to W h
 rw[h1] at HJ1
 refine Calls.mono (HJ1 _ r1) ?_
 rintro e w2 ⟨rfl,b2⟩
 have t2:=Turn.of_below (S:=[rb]) b2
 have r2:=r1.next b2
 have Rs2:=Rs1.turn t2 hne
 have T2:=tn T1 t2
 have s2:=t2.size
 clear Rs1 T1 r1 b2 t2
 go_wp2_with fail
 have HJ2:=fun W h=>is_ok (z:=z) (rb:=rb) (tb:=tb) (lb:=lb) (o:=o) hx k_by W h
 rw[h2] at HJ2
 refine Calls.mono (HJ2 _ r2) ?_
 rintro e w3 ⟨rfl,b3⟩
 have t3:=Turn.of_below (S:=[rb]) b3
 have r3:=r2.next b3
 have Rs3:=Rs2.turn t3 hne
 have T3:=tn T2 t3
 have s3:=t3.size
 clear Rs2 T2 r2 b3 t3
 go_wp2_with fail
 refine Calls.mono (must_c k_by _ r3) ?_
 rintro e w4 h4
 obtain⟨t4,_,rfl,rfl,r4⟩:=Out.of_ok hm1 h4
 have Rs4:=Rs3.turn t4 hne
 have T4:=tn T3 t4
 have s4:=t4.size
 clear Rs3 T3 r3 h4 t4
 go_wp2_with fail
 refine Calls.mono (HE _ _ r4) ?_
 rintro e w5 h5
 rcases hy1:E L.tail with f | q
 ·obtain⟨rfl,t5⟩:=Out.of_err hy1 h5
  go_wp2_with fail
  exact⟨rfl,hE.out _ _ (by rw[hpr.out,hy1];rfl) (tn T4 t5)⟩
 obtain⟨t5,_,rfl,⟨u5,rfl,S5⟩,r5⟩:=Out.of_ok hy1 h5
 have Rs5:=Rs4.turn t5 hne
 have T5:=tn T4 t5
 have s5:=t5.size
 clear Rs4 T4 r4 h5 t5
 have hpr1:Hid (pr=.ok (tm 35 t0.at_ [q.1],q.2)):=by show _=_;rw[hpr.out,hy1];rfl
 simp only[tmV]
 obtain⟨av,cv,hu,-,-⟩:=S5.parts.shape
 subst hu
 generalize hnn:q.1.parts.length=nn at *
 go_wp2_with fail
 have t6:=tnO (ob:=.cells ((tmL q.1 (.slice av nn cv))).toArray 33) (Turn.refl [rb] w5)
 have r6:=r5.onO (ob:=.cells ((tmL q.1 (.slice av nn cv))).toArray 33)
 have Lt6:=Box.new w5 (tmL q.1 (.slice av nn cv)) 33
 have hnLt:w5.heap.size∉[rb]:=by simp;omega
 have hxLt:w5.heap.size<(w5.alloc (.cells ((tmL q.1 (.slice av nn cv))).toArray 33)).heap.size:=by simp
 have Rs6:=Rs5.turn t6 hne
 have S6:=SitB.turn S5 t6 (by simp;omega)
 have T6:=tn T5 t6
 have s6:=t6.size
 clear Rs5 S5 T5 r5 t6
 generalize hW6:w5.alloc _=w6 at *
 clear hW6
 refine Calls.mono (term_c _ _ _ _ _ _) ?_
 rintro e w7 ⟨rfl,b7⟩
 have t7:=Turn.of_below (S:=[rb]) b7
 have r7:=r6.next b7
 have Rs7:=Rs6.turn t7 hne
 have Lt7:=Lt6.turn t7 hnLt
 have S7:=SitB.turn S6 t7 (by simp;omega)
 have T7:=tn T6 t7
 have s7:=t7.size
 clear Rs6 Lt6 S6 T6 r6 b7 t7
 obtain⟨p0,p1,p2,p3,p4,p5,pf0,pf1,pf2,pf3,pf4,pf5⟩:=Rs7.six
 have pl:=Rs7.lt
 have HS:=hid2 S7
 have HB:=hid2 Lt7
 clear S7
 have hg:w5.heap.size≠w.heap.size:=by omega
 go_wp2_with fail
 refine bodyPost_ret (v:=tmV (tm 35 t0.at_ [q.1]) (.slice (some ⟨w5.heap.size,0,none⟩) 1 1)) (by simp[results,Tryz.results53,go_sem, *]) rfl (hO.out (tm 35 t0.at_ [q.1]) (q.2) _ _ (.slice (some ⟨w5.heap.size,0,none⟩) 1 1) (hpr1.out) ?_ rfl ?_ ?_)
 ·exact T7.trans (turn_six _ _ _ _ _ _ _ _) (fun i hi=>.inr (by simp at hi;omega))
 ·exact sitb_one (fit_of _ _ _ _ _ _ hz (by decide) (by decide) (Nat.zero_le _) zero64 zero64 hok.a) rfl (by simpa using HB.out.lt) (by omega) (box_six (HB.out.turn (turn_six _ _ _ _ _ _ _ _) (by simp;omega))) (SitB.lower (SitB.turn HS.out (turn_six _ _ _ _ _ _ _ _) (by simp;omega)) (by omega))
 ·exact r7.turn1 (turn_six _ _ _ _ _ _ _ _) hL
set_option maxHeartbeats 4000000 in
set_option maxRecDepth 20000 in
theorem act_ladder {z rb tb lb:Nat}{c:Int}{L:List Tk}{o:Nat}(hz:z<=9223372036854775807){E:Ps}(HE:ExC z rb tb lb c o 21 E)(hDE:Dec E){A:Option Ps}{N:Nat}(HX:InA z rb tb lb c o N A)(hN:L.length<=N)(hN2:N<=1000000){t0:Tk}(hx:nxt c L=.ok t0)(h0:isT k_hold t0=false)(h1:isT k_to t0=false)(h2:isT k_by t0=false)(h3:isT k_ladder t0=true)(w:World)(hr:Rea z w rb tb lb c L o):
 Calls Tryz.prog 53 #[.pointer (some ⟨rb,0,none⟩)] w (Out (VTm w.heap.size z) z w rb tb lb c o (bnd (E L.tail) fun x=>beginP c k_lb A x.2 fun B L1=>bnd (rungs c B L1.length [x.1] L1) fun z=>.ok (tm 36 t0.at_ z.1,z.2))):=by
 obtain⟨pr,hpr⟩:∃ pr,Hid (pr=bnd (E L.tail) fun x=>beginP c k_lb A x.2 fun B L1=>bnd (rungs c B L1.length [x.1] L1) fun z=>.ok (tm 36 t0.at_ z.1,z.2)):=⟨_,rfl⟩
 rw[<-hpr.out]
 have hE:Hid (∀ f w',pr=.error f->Turn [rb] w w'->Out (VTm w.heap.size z) z w rb tb lb c o pr (.panicked [fltE f]) w'):=fun f w' h ht=>Out.mk_err h ht
 have hO:Hid (∀ t L' w' v u,pr=.ok (t,L')->Turn [rb] w w'->v=tmV t u->SitB w.heap.size z w' t u->Rea z w' rb tb lb c L' o->Out (VTm w.heap.size z) z w rb tb lb c o pr (.returned v) w'):=fun t L' w' v u h ht hv hs hr'=>Out.mk_ok h ht ⟨u,hv,hs⟩ hr'
 generalize Out (VTm w.heap.size z) z w rb tb lb c o pr=Post at *
 have hL:=hr.lts
 have hne:w.heap.size∉[rb]:=by simp;omega
 have Z0:=Box.new w zs6 33
 go_enter Tryz.func53,Tryz.ntmps53
 go_wp2_with fail
 have T0:=tnO (ob:=.cells (zs6).toArray 33) (Turn.refl [rb] w)
 have r0:=hr.onO (ob:=.cells (zs6).toArray 33)
 have Rs0:=Z0
 have zsz:w.heap.size<(w.alloc (.cells (zs6).toArray 33)).heap.size:=by simp
 have hz0:(w.alloc (.cells (zs6).toArray 33)).heap.size=w.heap.size+1:=by simp
 clear Z0
 generalize hW0:w.alloc _=w0 at *
 clear hW0
 clear hz0
 clear hr
 have HJ0:=fun W h=>is_ok (z:=z) (rb:=rb) (tb:=tb) (lb:=lb) (o:=o) hx k_hold W h
 rw[h0] at HJ0
 refine Calls.mono (HJ0 _ r0) ?_
 rintro e w1 ⟨rfl,b1⟩
 have t1:=Turn.of_below (S:=[rb]) b1
 have r1:=r0.next b1
 have Rs1:=Rs0.turn t1 hne
 have T1:=tn T0 t1
 have s1:=t1.size
 clear Rs0 T0 r0 b1 t1
 go_wp2_with fail
 have HJ1:=fun W h=>is_ok (z:=z) (rb:=rb) (tb:=tb) (lb:=lb) (o:=o) hx k_to W h
 rw[h1] at HJ1
 refine Calls.mono (HJ1 _ r1) ?_
 rintro e w2 ⟨rfl,b2⟩
 have t2:=Turn.of_below (S:=[rb]) b2
 have r2:=r1.next b2
 have Rs2:=Rs1.turn t2 hne
 have T2:=tn T1 t2
 have s2:=t2.size
 clear Rs1 T1 r1 b2 t2
 go_wp2_with fail
 have HJ2:=fun W h=>is_ok (z:=z) (rb:=rb) (tb:=tb) (lb:=lb) (o:=o) hx k_by W h
 rw[h2] at HJ2
 refine Calls.mono (HJ2 _ r2) ?_
 rintro e w3 ⟨rfl,b3⟩
 have t3:=Turn.of_below (S:=[rb]) b3
 have r3:=r2.next b3
 have Rs3:=Rs2.turn t3 hne
 have T3:=tn T2 t3
 have s3:=t3.size
 clear Rs2 T2 r2 b3 t3
 go_wp2_with fail
 have HJ3:=fun W h=>is_ok (z:=z) (rb:=rb) (tb:=tb) (lb:=lb) (o:=o) hx k_ladder W h
 rw[h3] at HJ3
 refine Calls.mono (HJ3 _ r3) ?_
 rintro e w4 ⟨rfl,b4⟩
 have t4:=Turn.of_below (S:=[rb]) b4
 have r4:=r3.next b4
 have Rs4:=Rs3.turn t4 hne
 have T4:=tn T3 t4
 have s4:=t4.size
 clear Rs3 T3 r3 b4 t4
 go_wp2_with fail
 have HM:=hid2 (ladder_c hz HE hDE HX hN hN2 hx h3 _ r4)
 rw[<-hpr.out] at HM
 refine Calls.mono HM.out ?_
 intro e w5 h5
 rcases out_up T4 h5 with ⟨f,rfl,hp,ht⟩ | ⟨t,u,L',rfl,hp2,t5,S5,r5⟩
 ·go_wp2_with fail
  exact⟨rfl,hE.out _ _ hp ht⟩
 obtain⟨p0,p1,p2,p3,p4,p5,q0,q1,q2,q3,q4,q5⟩:=(Rs4.turn t5 hne).six
 have pl:=(Rs4.turn t5 hne).lt
 have HT:=hid2 (tn T4 t5)
 have HS:=hid2 S5
 obtain⟨av,cv,rfl,-,-⟩:=S5.parts.shape
 generalize hnn:t.parts.length=nn at *
 clear h5 t5 S5 HM
 simp only[tmV]
 go_wp2_with fail
 refine bodyPost_ret (v:=tmV t (.slice av nn cv)) (by simp[results,Tryz.results53,go_sem, *]) rfl (hO.out t L' _ _ (.slice av nn cv) hp2 ?_ rfl ?_ ?_)
 ·exact HT.out.trans (turn_six _ _ _ _ _ _ _ _) (fun i hi=>.inr (by simp at hi;omega))
 ·exact SitB.lower (SitB.turn HS.out (turn_six _ _ _ _ _ _ _ _) (by simp;omega)) (by omega)
 ·exact r5.turn1 (turn_six _ _ _ _ _ _ _ _) hL
set_option maxHeartbeats 1000000 in
theorem act_no {z rb tb lb:Nat}{c:Int}{L:List Tk}{o:Nat}{f:Flt}(hx:nxt c L=.error f)(w:World)(hr:Rea z w rb tb lb c L o):
 Calls Tryz.prog 53 #[.pointer (some ⟨rb,0,none⟩)] w fun e w'=>e=.panicked [fltE f]/\Below w.heap.size w w':=by
 have HN:=hid2 (is_err hx k_hold _ (hr.onO (ob:=.cells (zs6).toArray 33)))
 clear hr hx
 go_enter Tryz.func53,Tryz.ntmps53
 go_wp2_with fail
 refine Calls.mono HN.out ?_
 rintro e w1 ⟨rfl,b1⟩
 go_wp2_with fail
 exact⟨rfl,rfl,below_on ((Below.refl _ _).alloc (Nat.le_refl _) _) b1 (by simp)⟩
set_option maxHeartbeats 1000000 in
theorem act_else {z rb tb lb:Nat}{c:Int}{L:List Tk}{o:Nat}{t0:Tk}(hx:nxt c L=.ok t0)(h0:isT k_hold t0=false)(h1:isT k_to t0=false)(h2:isT k_by t0=false)(h3:isT k_ladder t0=false)(w:World)(hr:Rea z w rb tb lb c L o):
 Calls Tryz.prog 53 #[.pointer (some ⟨rb,0,none⟩)] w fun e w'=>e=.panicked [fltE (t0.at_,16)]/\Below w.heap.size w w':=by
 have b0:=(Below.refl w.heap.size w).alloc (Nat.le_refl _) (.cells (zs6).toArray 33)
 have H0:=hid2 (fun W (k:Below w.heap.size w W)=>is_ok hx k_hold W (hr.next k))
 have H1:=hid2 (fun W (k:Below w.heap.size w W)=>is_ok hx k_to W (hr.next k))
 have H2:=hid2 (fun W (k:Below w.heap.size w W)=>is_ok hx k_by W (hr.next k))
 have H3:=hid2 (fun W (k:Below w.heap.size w W)=>is_ok hx k_ladder W (hr.next k))
 have HU:=hid2 (fun W (k:Below w.heap.size w W)=>unfit_ok hx W (hr.next k))
 rw[h0] at H0
 rw[h1] at H1
 rw[h2] at H2
 rw[h3] at H3
 clear hr hx h0 h1 h2 h3
 go_enter Tryz.func53,Tryz.ntmps53
 go_wp2_with fail
 refine Calls.mono (H0.out _ b0) ?_
 rintro e w1 ⟨rfl,c1⟩
 have b1:=below_on b0 c1 b0.size
 go_wp2_with fail
 refine Calls.mono (H1.out _ b1) ?_
 rintro e w2 ⟨rfl,c2⟩
 have b2:=below_on b1 c2 b1.size
 go_wp2_with fail
 refine Calls.mono (H2.out _ b2) ?_
 rintro e w3 ⟨rfl,c3⟩
 have b3:=below_on b2 c3 b2.size
 go_wp2_with fail
 refine Calls.mono (H3.out _ b3) ?_
 rintro e w4 ⟨rfl,c4⟩
 have b4:=below_on b3 c4 b3.size
 go_wp2_with fail
 refine Calls.mono (HU.out _ b4) ?_
 rintro e w5 ⟨rfl,c5⟩
 go_wp2_with fail
 exact⟨rfl,rfl,below_on b4 c5 b4.size⟩
theorem act_c {z rb tb lb:Nat}{c:Int}{o N:Nat}(hz:z<=9223372036854775807){E:Ps}(HE:ExC z rb tb lb c o 21 E)(hDE:Dec E){A:Option Ps}(HX:InA z rb tb lb c o N A)(hN2:N<=1000000):AcC z rb tb lb c o N 53 (actP c E A):=by
 intro L hN w hr
 unfold actP
 rcases hx:nxt c L with f | t0
 ·exact(act_no hx w hr).mono fun e w' ⟨h1,h2⟩=>h1 ▸ Out.mk_err rfl (Turn.of_below h2)
 ·rw[bnd_ok]
  cases h0:isT k_hold t0 with
  | true=>rw[if_pos rfl];exact act_hold hz hx h0 w hr
  | false=>
    rw[if_neg (by simp)]
    cases h1:isT k_to t0 with
    | true=>rw[if_pos rfl];exact act_to hz HE hx h0 h1 w hr
    | false=>
      rw[if_neg (by simp)]
      cases h2:isT k_by t0 with
      | true=>rw[if_pos rfl];exact act_by hz HE hx h0 h1 h2 w hr
      | false=>
        rw[if_neg (by simp)]
        cases h3:isT k_ladder t0 with
        | true=>rw[if_pos rfl];exact act_ladder hz HE hDE HX hN hN2 hx h0 h1 h2 h3 w hr
        | false=>
          rw[if_neg (by simp)]
          exact(act_else hx h0 h1 h2 h3 w hr).mono fun e w' ⟨g1,g2⟩=>g1 ▸ Out.mk_err rfl (Turn.of_below g2)
theorem actD_c {z rb tb lb:Nat}{c:Int}{N:Nat}(hz:z<=9223372036854775807)(hN:N<=1000000):∀ d o,o+d=64->AcC z rb tb lb c o N 53 (actD c d)
 | 0,o,ho=>act_c hz (expr_c hz 0 o ho) (dec_expr c 0) ⟨fun _=>(by omega),(fun _ h=>by cases h)⟩ hN
 | d+1,o,ho=>act_c hz (expr_c hz (d+1) o ho) (dec_expr c (d+1)) ⟨(fun h=>by cases h),fun E h=>by cases h;exact⟨by omega,actD_c hz hN d (o+1) (by omega),dec_actD c d⟩⟩ hN
theorem build_it3 (k a:Int)(q:Tm)(u:Value)(w:World):(Instr.build 53 #[(0,.int .i64 k),(8,.int .i64 a),(7,tmV q u)]).run Tryz.prog w=.ok (.agg (itC ⟨k,⟨#[]⟩,⟨#[]⟩,0,0,0,nilM,q,a⟩ (.slice none 0 0) u).toArray) w:=
 run_build w _ _ _ (by kernel_rfl)
theorem wpList_it3 {ops:Array Oper}{rest:List Oper}{o:Oper}{a:Act}{Q:Exit->Act->World->Prop}{w:World}(hgd:o.guard=none)(x y t:Operand)(ho:o.op=.build 53 #[(0,x),(8,y),(7,t)])(k p:Int)(q:Tm)(u:Value)(hx:a.eval x=.int .i64 k)(hy:a.eval y=.int .i64 p)(ht:a.eval t=tmV q u)
 (X:Array Value) (hX:X=(itC ⟨k,⟨#[]⟩,⟨#[]⟩,0,0,0,nilM,q,p⟩ (.slice none 0 0) u).toArray) (h:wpList Tryz.prog ops Q rest (a.put o.dst (.agg X)) w):wpList Tryz.prog ops Q (o::rest) a w:=by
 refine wpList_plain hgd fun K hK=>?_
 subst hX
 unfold Oper.wp execOp
 have hb:=build_it3 k p q u w
 simp only[ho,Sem.run_bind,List.map_toArray,List.map_cons,List.map_nil,hx,hy,ht,hb,Result.andThen_ok]
 exact hK _ _ h
theorem outI_up {z:Nat}{w W w':World}{rb tb lb:Nat}{c:Int}{o:Nat}{pr:Rs It}{e:Ending}(hT:Turn [rb] w W)(h:Out (VIt W.heap.size z) z W rb tb lb c o pr e w'):
 (∃ f,e=.panicked [fltE f]/\pr=.error f/\Turn [rb] w w')\/(∃ i vx vy L',e=.returned (itA i vx vy)/\pr=.ok (i,L')/\Turn [rb] W w'/\ItB W.heap.size z w' i vx vy/\Rea z w' rb tb lb c L' o):=by
 rcases hp:pr with f | y
 ·obtain⟨rfl,ht⟩:=Out.of_err hp h
  exact .inl ⟨f,rfl,rfl,tn hT ht⟩
 ·obtain⟨ht,v,rfl,⟨vx,vy,rfl,hs⟩,hr'⟩:=Out.of_ok hp h
  exact .inr ⟨y.1,vx,vy,y.2,rfl,rfl,ht,hs,hr'⟩
theorem ItB.turn {S:List Nat}{B z:Nat}{w w':World}{i:It}{vx vy:Value}(h:ItB B z w i vx vy)(k:Turn S w w')(hS:∀ q∈S,q<B):ItB B z w' i vx vy:=⟨h.sx.turn k hS,h.sy.turn k hS,h.nm,h.un⟩
theorem ItB.lower {B B' z:Nat}{w:World}{i:It}{vx vy:Value}(h:ItB B z w i vx vy)(hB:B'<=B):ItB B' z w i vx vy:=⟨SitB.lower h.sx hB,SitB.lower h.sy hB,h.nm,h.un⟩
theorem ItB.one {B z:Nat}{w:World}{i:It}{vx vy:Value}(h:ItB B z w i vx vy):(itC i vx vy).toArray.all (·.oneCell')=true:=by
 obtain⟨a1,c1,rfl,-,-⟩:=h.sx.parts.shape
 obtain⟨a2,c2,rfl,-,-⟩:=h.sy.parts.shape
 kernel_rfl
set_option maxHeartbeats 4000000 in
set_option maxRecDepth 20000 in
theorem item_metric {z rb tb lb:Nat}{c:Int}{L:List Tk}{o:Nat}(_hz:z<=9223372036854775807){t0:Tk}(hx:nxt c L=.ok t0)(h0:isT k_metric t0=true)(w:World)(hr:Rea z w rb tb lb c L o):
 Calls Tryz.prog 29 #[.pointer (some ⟨rb,0,none⟩)] w (Out (VIt w.heap.size z) z w rb tb lb c o (metricP c t0.at_ L.tail)):=by
 obtain⟨pr,hpr⟩:∃ pr,Hid (pr=metricP c t0.at_ L.tail):=⟨_,rfl⟩
 rw[<-hpr.out]
 have hE:Hid (∀ f w',pr=.error f->Turn [rb] w w'->Out (VIt w.heap.size z) z w rb tb lb c o pr (.panicked [fltE f]) w'):=fun f w' h ht=>Out.mk_err h ht
 have hO:Hid (∀ i L' w' v vx vy,pr=.ok (i,L')->Turn [rb] w w'->v=itA i vx vy->ItB w.heap.size z w' i vx vy->Rea z w' rb tb lb c L' o->Out (VIt w.heap.size z) z w rb tb lb c o pr (.returned v) w'):=fun i L' w' v vx vy h ht hv hs hr'=>Out.mk_ok h ht ⟨vx,vy,hv,hs⟩ hr'
 generalize Out (VIt w.heap.size z) z w rb tb lb c o pr=Post at *
 have hL:=hr.lts
 have hne:w.heap.size∉[rb]:=by simp;omega
 obtain⟨m,hm19⟩:∃ m:Nat,Hid (m=19):=⟨_,rfl⟩
 have zs:∀ w,(sizeOf 53).run Tryz.prog w=.ok m w:=by rw[hm19.out];exact Tryz.sizeOf53
 have zm:(19=m)=True:=eq_true hm19.out.symm
 have Z0:=Box.new w zs19 53
 go_enter Tryz.func29,Tryz.ntmps29
 go_wp2_with fail
 have T0:=tnO (ob:=.cells (zs19).toArray 53) (Turn.refl [rb] w)
 have r0:=hr.onO (ob:=.cells (zs19).toArray 53)
 have Rs0:=Z0
 have zsz:w.heap.size<(w.alloc (.cells (zs19).toArray 53)).heap.size:=by simp
 have hz0:(w.alloc (.cells (zs19).toArray 53)).heap.size=w.heap.size+1:=by simp
 clear Z0
 generalize hW0:w.alloc _=w0 at *
 clear hW0
 clear hz0
 clear hr
 have HJ0:=fun W h=>is_ok (z:=z) (rb:=rb) (tb:=tb) (lb:=lb) (o:=o) hx k_metric W h
 rw[h0] at HJ0
 refine Calls.mono (HJ0 _ r0) ?_
 rintro e w1 ⟨rfl,b1⟩
 have t1:=Turn.of_below (S:=[rb]) b1
 have r1:=r0.next b1
 have Rs1:=Rs0.turn t1 hne
 have T1:=tn T0 t1
 have s1:=t1.size
 clear Rs0 T0 r0 b1 t1
 go_wp2_with fail
 clear HJ0
 have HM:=hid2 (metric_c _hz hx h0 _ r1)
 rw[<-hpr.out] at HM
 refine Calls.mono HM.out ?_
 intro e w2 h2
 rcases outI_up T1 h2 with ⟨f,rfl,hp,ht⟩ | ⟨i,vx,vy,L',he,hp2,t2,S2,rr2⟩
 ·go_wp2_with fail
  exact⟨rfl,hE.out _ _ hp ht⟩
 obtain⟨Y,hY⟩:∃ Y:Array Value,Hid (Y=(itC i vx vy).toArray):=⟨_,rfl⟩
 have he2:e=.returned (.agg Y):=by rw[he,hY.out]
 subst he2
 have Rs2:=Rs1.turn t2 hne
 have T2:=tn T1 t2
 have r2:=rr2
 have s2:=t2.size
 have HS:=hid2 S2
 have o1:Y.all (·.oneCell')=true:=by rw[hY.out];exact S2.one
 clear h2 t2 S2 HM rr2 he Rs1 T1 r1
 have sY:Y.size=19:=by rw[hY.out];rfl
 have one:∀ v∈Y.toList,v.oneCell'=true:=fun v hv=>Array.all_eq_true_iff_forall_mem.1 (o1) v (by simpa using hv)
 have stY:=st_at w.heap.size Y.toList 0 w2 _ Rs2 (by simp[sY]) one
 have TF:=hid2 (putRow_turn w.heap.size Y.toList 0 w2)
 have BF:=putRow_whole Rs2 (X:=Y.toList) (by simp[sY])
 have ldF:=ld_row (X:=Y) BF rfl (n:=m) (by simp[sY,hm19.out])
 have pl:=Rs2.lt
 have HT:=hid2 T2
 have HR:=hid2 r2
 clear Rs2 T2 r2 BF one
 generalize hWF:putRow w2 w.heap.size 0 Y.toList=WF at *
 clear hWF
 clear o1
 go_wp2_with fail
 refine bodyPost_ret (v:=.agg Y) (by simp[results,Tryz.results29,go_sem, *]) rfl (hO.out i L' _ _ vx vy hp2 ?_ (by rw[hY.out]) ((HS.out.turn TF.out (by simp;omega)).lower (by omega)) ?_)
 ·exact HT.out.trans TF.out (fun i hi=>.inr (by simp at hi;omega))
 ·exact HR.out.turn1 TF.out hL
set_option maxHeartbeats 4000000 in
set_option maxRecDepth 20000 in
theorem item_reps {z rb tb lb:Nat}{c:Int}{L:List Tk}{o:Nat}(_hz:z<=9223372036854775807){t0:Tk}(hx:nxt c L=.ok t0)(h0:isT k_metric t0=false)(h1:isT k_reps t0=true)(w:World)(hr:Rea z w rb tb lb c L o):
 Calls Tryz.prog 29 #[.pointer (some ⟨rb,0,none⟩)] w (Out (VIt w.heap.size z) z w rb tb lb c o (repsP c t0.at_ L.tail)):=by
 obtain⟨pr,hpr⟩:∃ pr,Hid (pr=repsP c t0.at_ L.tail):=⟨_,rfl⟩
 rw[<-hpr.out]
 have hE:Hid (∀ f w',pr=.error f->Turn [rb] w w'->Out (VIt w.heap.size z) z w rb tb lb c o pr (.panicked [fltE f]) w'):=fun f w' h ht=>Out.mk_err h ht
 have hO:Hid (∀ i L' w' v vx vy,pr=.ok (i,L')->Turn [rb] w w'->v=itA i vx vy->ItB w.heap.size z w' i vx vy->Rea z w' rb tb lb c L' o->Out (VIt w.heap.size z) z w rb tb lb c o pr (.returned v) w'):=fun i L' w' v vx vy h ht hv hs hr'=>Out.mk_ok h ht ⟨vx,vy,hv,hs⟩ hr'
 generalize Out (VIt w.heap.size z) z w rb tb lb c o pr=Post at *
 have hL:=hr.lts
 have hne:w.heap.size∉[rb]:=by simp;omega
 obtain⟨m,hm19⟩:∃ m:Nat,Hid (m=19):=⟨_,rfl⟩
 have zs:∀ w,(sizeOf 53).run Tryz.prog w=.ok m w:=by rw[hm19.out];exact Tryz.sizeOf53
 have zm:(19=m)=True:=eq_true hm19.out.symm
 have Z0:=Box.new w zs19 53
 go_enter Tryz.func29,Tryz.ntmps29
 go_wp2_with fail
 have T0:=tnO (ob:=.cells (zs19).toArray 53) (Turn.refl [rb] w)
 have r0:=hr.onO (ob:=.cells (zs19).toArray 53)
 have Rs0:=Z0
 have zsz:w.heap.size<(w.alloc (.cells (zs19).toArray 53)).heap.size:=by simp
 have hz0:(w.alloc (.cells (zs19).toArray 53)).heap.size=w.heap.size+1:=by simp
 clear Z0
 generalize hW0:w.alloc _=w0 at *
 clear hW0
 clear hz0
 clear hr
 have HJ0:=fun W h=>is_ok (z:=z) (rb:=rb) (tb:=tb) (lb:=lb) (o:=o) hx k_metric W h
 rw[h0] at HJ0
 refine Calls.mono (HJ0 _ r0) ?_
 rintro e w1 ⟨rfl,b1⟩
 have t1:=Turn.of_below (S:=[rb]) b1
 have r1:=r0.next b1
 have Rs1:=Rs0.turn t1 hne
 have T1:=tn T0 t1
 have s1:=t1.size
 clear Rs0 T0 r0 b1 t1
 go_wp2_with fail
 clear HJ0
 have HJ1:=fun W h=>is_ok (z:=z) (rb:=rb) (tb:=tb) (lb:=lb) (o:=o) hx k_reps W h
 rw[h1] at HJ1
 refine Calls.mono (HJ1 _ r1) ?_
 rintro e w2 ⟨rfl,b2⟩
 have t2:=Turn.of_below (S:=[rb]) b2
 have r2:=r1.next b2
 have Rs2:=Rs1.turn t2 hne
 have T2:=tn T1 t2
 have s2:=t2.size
 clear Rs1 T1 r1 b2 t2
 go_wp2_with fail
 clear HJ1
 have HM:=hid2 (reps_c _hz hx h1 _ r2)
 rw[<-hpr.out] at HM
 refine Calls.mono HM.out ?_
 intro e w3 h3
 rcases outI_up T2 h3 with ⟨f,rfl,hp,ht⟩ | ⟨i,vx,vy,L',he,hp2,t3,S3,rr3⟩
 ·go_wp2_with fail
  exact⟨rfl,hE.out _ _ hp ht⟩
 obtain⟨Y,hY⟩:∃ Y:Array Value,Hid (Y=(itC i vx vy).toArray):=⟨_,rfl⟩
 have he2:e=.returned (.agg Y):=by rw[he,hY.out]
 subst he2
 have Rs3:=Rs2.turn t3 hne
 have T3:=tn T2 t3
 have r3:=rr3
 have s3:=t3.size
 have HS:=hid2 S3
 have o1:Y.all (·.oneCell')=true:=by rw[hY.out];exact S3.one
 clear h3 t3 S3 HM rr3 he Rs2 T2 r2
 have sY:Y.size=19:=by rw[hY.out];rfl
 have one:∀ v∈Y.toList,v.oneCell'=true:=fun v hv=>Array.all_eq_true_iff_forall_mem.1 (o1) v (by simpa using hv)
 have stY:=st_at w.heap.size Y.toList 0 w3 _ Rs3 (by simp[sY]) one
 have TF:=hid2 (putRow_turn w.heap.size Y.toList 0 w3)
 have BF:=putRow_whole Rs3 (X:=Y.toList) (by simp[sY])
 have ldF:=ld_row (X:=Y) BF rfl (n:=m) (by simp[sY,hm19.out])
 have pl:=Rs3.lt
 have HT:=hid2 T3
 have HR:=hid2 r3
 clear Rs3 T3 r3 BF one
 generalize hWF:putRow w3 w.heap.size 0 Y.toList=WF at *
 clear hWF
 clear o1
 go_wp2_with fail
 refine bodyPost_ret (v:=.agg Y) (by simp[results,Tryz.results29,go_sem, *]) rfl (hO.out i L' _ _ vx vy hp2 ?_ (by rw[hY.out]) ((HS.out.turn TF.out (by simp;omega)).lower (by omega)) ?_)
 ·exact HT.out.trans TF.out (fun i hi=>.inr (by simp at hi;omega))
 ·exact HR.out.turn1 TF.out hL
set_option maxHeartbeats 4000000 in
set_option maxRecDepth 20000 in
theorem item_cool {z rb tb lb:Nat}{c:Int}{L:List Tk}{o:Nat}(_hz:z<=9223372036854775807){t0:Tk}(hx:nxt c L=.ok t0)(h0:isT k_metric t0=false)(h1:isT k_reps t0=false)(h2:isT k_cooldown t0=true)(w:World)(hr:Rea z w rb tb lb c L o):
 Calls Tryz.prog 29 #[.pointer (some ⟨rb,0,none⟩)] w (Out (VIt w.heap.size z) z w rb tb lb c o (coolP c t0.at_ L.tail)):=by
 obtain⟨pr,hpr⟩:∃ pr,Hid (pr=coolP c t0.at_ L.tail):=⟨_,rfl⟩
 rw[<-hpr.out]
 have hE:Hid (∀ f w',pr=.error f->Turn [rb] w w'->Out (VIt w.heap.size z) z w rb tb lb c o pr (.panicked [fltE f]) w'):=fun f w' h ht=>Out.mk_err h ht
 have hO:Hid (∀ i L' w' v vx vy,pr=.ok (i,L')->Turn [rb] w w'->v=itA i vx vy->ItB w.heap.size z w' i vx vy->Rea z w' rb tb lb c L' o->Out (VIt w.heap.size z) z w rb tb lb c o pr (.returned v) w'):=fun i L' w' v vx vy h ht hv hs hr'=>Out.mk_ok h ht ⟨vx,vy,hv,hs⟩ hr'
 generalize Out (VIt w.heap.size z) z w rb tb lb c o pr=Post at *
 have hL:=hr.lts
 have hne:w.heap.size∉[rb]:=by simp;omega
 obtain⟨m,hm19⟩:∃ m:Nat,Hid (m=19):=⟨_,rfl⟩
 have zs:∀ w,(sizeOf 53).run Tryz.prog w=.ok m w:=by rw[hm19.out];exact Tryz.sizeOf53
 have zm:(19=m)=True:=eq_true hm19.out.symm
 have Z0:=Box.new w zs19 53
 go_enter Tryz.func29,Tryz.ntmps29
 go_wp2_with fail
 have T0:=tnO (ob:=.cells (zs19).toArray 53) (Turn.refl [rb] w)
 have r0:=hr.onO (ob:=.cells (zs19).toArray 53)
 have Rs0:=Z0
 have zsz:w.heap.size<(w.alloc (.cells (zs19).toArray 53)).heap.size:=by simp
 have hz0:(w.alloc (.cells (zs19).toArray 53)).heap.size=w.heap.size+1:=by simp
 clear Z0
 generalize hW0:w.alloc _=w0 at *
 clear hW0
 clear hz0
 clear hr
 have HJ0:=fun W h=>is_ok (z:=z) (rb:=rb) (tb:=tb) (lb:=lb) (o:=o) hx k_metric W h
 rw[h0] at HJ0
 refine Calls.mono (HJ0 _ r0) ?_
 rintro e w1 ⟨rfl,b1⟩
 have t1:=Turn.of_below (S:=[rb]) b1
 have r1:=r0.next b1
 have Rs1:=Rs0.turn t1 hne
 have T1:=tn T0 t1
 have s1:=t1.size
 clear Rs0 T0 r0 b1 t1
 go_wp2_with fail
 clear HJ0
 have HJ1:=fun W h=>is_ok (z:=z) (rb:=rb) (tb:=tb) (lb:=lb) (o:=o) hx k_reps W h
 rw[h1] at HJ1
 refine Calls.mono (HJ1 _ r1) ?_
 rintro e w2 ⟨rfl,b2⟩
 have t2:=Turn.of_below (S:=[rb]) b2
 have r2:=r1.next b2
 have Rs2:=Rs1.turn t2 hne
 have T2:=tn T1 t2
 have s2:=t2.size
 clear Rs1 T1 r1 b2 t2
 go_wp2_with fail
 clear HJ1
 have HJ2:=fun W h=>is_ok (z:=z) (rb:=rb) (tb:=tb) (lb:=lb) (o:=o) hx k_cooldown W h
 rw[h2] at HJ2
 refine Calls.mono (HJ2 _ r2) ?_
 rintro e w3 ⟨rfl,b3⟩
 have t3:=Turn.of_below (S:=[rb]) b3
 have r3:=r2.next b3
 have Rs3:=Rs2.turn t3 hne
 have T3:=tn T2 t3
 have s3:=t3.size
 clear Rs2 T2 r2 b3 t3
 go_wp2_with fail
 clear HJ2
 have HM:=hid2 (cool_c _hz hx h2 _ r3)
 rw[<-hpr.out] at HM
 refine Calls.mono HM.out ?_
 intro e w4 h4
 rcases outI_up T3 h4 with ⟨f,rfl,hp,ht⟩ | ⟨i,vx,vy,L',he,hp2,t4,S4,rr4⟩
 ·go_wp2_with fail
  exact⟨rfl,hE.out _ _ hp ht⟩
 obtain⟨Y,hY⟩:∃ Y:Array Value,Hid (Y=(itC i vx vy).toArray):=⟨_,rfl⟩
 have he2:e=.returned (.agg Y):=by rw[he,hY.out]
 subst he2
 have Rs4:=Rs3.turn t4 hne
 have T4:=tn T3 t4
 have r4:=rr4
 have s4:=t4.size
 have HS:=hid2 S4
 have o1:Y.all (·.oneCell')=true:=by rw[hY.out];exact S4.one
 clear h4 t4 S4 HM rr4 he Rs3 T3 r3
 have sY:Y.size=19:=by rw[hY.out];rfl
 have one:∀ v∈Y.toList,v.oneCell'=true:=fun v hv=>Array.all_eq_true_iff_forall_mem.1 (o1) v (by simpa using hv)
 have stY:=st_at w.heap.size Y.toList 0 w4 _ Rs4 (by simp[sY]) one
 have TF:=hid2 (putRow_turn w.heap.size Y.toList 0 w4)
 have BF:=putRow_whole Rs4 (X:=Y.toList) (by simp[sY])
 have ldF:=ld_row (X:=Y) BF rfl (n:=m) (by simp[sY,hm19.out])
 have pl:=Rs4.lt
 have HT:=hid2 T4
 have HR:=hid2 r4
 clear Rs4 T4 r4 BF one
 generalize hWF:putRow w4 w.heap.size 0 Y.toList=WF at *
 clear hWF
 clear o1
 go_wp2_with fail
 refine bodyPost_ret (v:=.agg Y) (by simp[results,Tryz.results29,go_sem, *]) rfl (hO.out i L' _ _ vx vy hp2 ?_ (by rw[hY.out]) ((HS.out.turn TF.out (by simp;omega)).lower (by omega)) ?_)
 ·exact HT.out.trans TF.out (fun i hi=>.inr (by simp at hi;omega))
 ·exact HR.out.turn1 TF.out hL
set_option maxHeartbeats 4000000 in
set_option maxRecDepth 20000 in
theorem item_let {z rb tb lb:Nat}{c:Int}{L:List Tk}{o:Nat}(_hz:z<=9223372036854775807){E:Ps}(HE:ExC z rb tb lb c o 21 E){t0:Tk}(hx:nxt c L=.ok t0)(h0:isT k_metric t0=false)(h1:isT k_reps t0=false)(h2:isT k_cooldown t0=false)(h3:isT k_let t0=true)(w:World)(hr:Rea z w rb tb lb c L o):
 Calls Tryz.prog 29 #[.pointer (some ⟨rb,0,none⟩)] w (Out (VIt w.heap.size z) z w rb tb lb c o (letP c E t0.at_ L.tail)):=by
 obtain⟨pr,hpr⟩:∃ pr,Hid (pr=letP c E t0.at_ L.tail):=⟨_,rfl⟩
 rw[<-hpr.out]
 have hE:Hid (∀ f w',pr=.error f->Turn [rb] w w'->Out (VIt w.heap.size z) z w rb tb lb c o pr (.panicked [fltE f]) w'):=fun f w' h ht=>Out.mk_err h ht
 have hO:Hid (∀ i L' w' v vx vy,pr=.ok (i,L')->Turn [rb] w w'->v=itA i vx vy->ItB w.heap.size z w' i vx vy->Rea z w' rb tb lb c L' o->Out (VIt w.heap.size z) z w rb tb lb c o pr (.returned v) w'):=fun i L' w' v vx vy h ht hv hs hr'=>Out.mk_ok h ht ⟨vx,vy,hv,hs⟩ hr'
 generalize Out (VIt w.heap.size z) z w rb tb lb c o pr=Post at *
 have hL:=hr.lts
 have hne:w.heap.size∉[rb]:=by simp;omega
 obtain⟨m,hm19⟩:∃ m:Nat,Hid (m=19):=⟨_,rfl⟩
 have zs:∀ w,(sizeOf 53).run Tryz.prog w=.ok m w:=by rw[hm19.out];exact Tryz.sizeOf53
 have zm:(19=m)=True:=eq_true hm19.out.symm
 have Z0:=Box.new w zs19 53
 go_enter Tryz.func29,Tryz.ntmps29
 go_wp2_with fail
 have T0:=tnO (ob:=.cells (zs19).toArray 53) (Turn.refl [rb] w)
 have r0:=hr.onO (ob:=.cells (zs19).toArray 53)
 have Rs0:=Z0
 have zsz:w.heap.size<(w.alloc (.cells (zs19).toArray 53)).heap.size:=by simp
 have hz0:(w.alloc (.cells (zs19).toArray 53)).heap.size=w.heap.size+1:=by simp
 clear Z0
 generalize hW0:w.alloc _=w0 at *
 clear hW0
 clear hz0
 clear hr
 have HJ0:=fun W h=>is_ok (z:=z) (rb:=rb) (tb:=tb) (lb:=lb) (o:=o) hx k_metric W h
 rw[h0] at HJ0
 refine Calls.mono (HJ0 _ r0) ?_
 rintro e w1 ⟨rfl,b1⟩
 have t1:=Turn.of_below (S:=[rb]) b1
 have r1:=r0.next b1
 have Rs1:=Rs0.turn t1 hne
 have T1:=tn T0 t1
 have s1:=t1.size
 clear Rs0 T0 r0 b1 t1
 go_wp2_with fail
 clear HJ0
 have HJ1:=fun W h=>is_ok (z:=z) (rb:=rb) (tb:=tb) (lb:=lb) (o:=o) hx k_reps W h
 rw[h1] at HJ1
 refine Calls.mono (HJ1 _ r1) ?_
 rintro e w2 ⟨rfl,b2⟩
 have t2:=Turn.of_below (S:=[rb]) b2
 have r2:=r1.next b2
 have Rs2:=Rs1.turn t2 hne
 have T2:=tn T1 t2
 have s2:=t2.size
 clear Rs1 T1 r1 b2 t2
 go_wp2_with fail
 clear HJ1
 have HJ2:=fun W h=>is_ok (z:=z) (rb:=rb) (tb:=tb) (lb:=lb) (o:=o) hx k_cooldown W h
 rw[h2] at HJ2
 refine Calls.mono (HJ2 _ r2) ?_
 rintro e w3 ⟨rfl,b3⟩
 have t3:=Turn.of_below (S:=[rb]) b3
 have r3:=r2.next b3
 have Rs3:=Rs2.turn t3 hne
 have T3:=tn T2 t3
 have s3:=t3.size
 clear Rs2 T2 r2 b3 t3
 go_wp2_with fail
 clear HJ2
 have HJ3:=fun W h=>is_ok (z:=z) (rb:=rb) (tb:=tb) (lb:=lb) (o:=o) hx k_let W h
 rw[h3] at HJ3
 refine Calls.mono (HJ3 _ r3) ?_
 rintro e w4 ⟨rfl,b4⟩
 have t4:=Turn.of_below (S:=[rb]) b4
 have r4:=r3.next b4
 have Rs4:=Rs3.turn t4 hne
 have T4:=tn T3 t4
 have s4:=t4.size
 clear Rs3 T3 r3 b4 t4
 go_wp2_with fail
 clear HJ3
 have HM:=hid2 (let_c _hz HE hx h3 _ r4)
 rw[<-hpr.out] at HM
 refine Calls.mono HM.out ?_
 intro e w5 h5
 rcases outI_up T4 h5 with ⟨f,rfl,hp,ht⟩ | ⟨i,vx,vy,L',he,hp2,t5,S5,rr5⟩
 ·go_wp2_with fail
  exact⟨rfl,hE.out _ _ hp ht⟩
 obtain⟨Y,hY⟩:∃ Y:Array Value,Hid (Y=(itC i vx vy).toArray):=⟨_,rfl⟩
 have he2:e=.returned (.agg Y):=by rw[he,hY.out]
 subst he2
 have Rs5:=Rs4.turn t5 hne
 have T5:=tn T4 t5
 have r5:=rr5
 have s5:=t5.size
 have HS:=hid2 S5
 have o1:Y.all (·.oneCell')=true:=by rw[hY.out];exact S5.one
 clear h5 t5 S5 HM rr5 he Rs4 T4 r4
 have sY:Y.size=19:=by rw[hY.out];rfl
 have one:∀ v∈Y.toList,v.oneCell'=true:=fun v hv=>Array.all_eq_true_iff_forall_mem.1 (o1) v (by simpa using hv)
 have stY:=st_at w.heap.size Y.toList 0 w5 _ Rs5 (by simp[sY]) one
 have TF:=hid2 (putRow_turn w.heap.size Y.toList 0 w5)
 have BF:=putRow_whole Rs5 (X:=Y.toList) (by simp[sY])
 have ldF:=ld_row (X:=Y) BF rfl (n:=m) (by simp[sY,hm19.out])
 have pl:=Rs5.lt
 have HT:=hid2 T5
 have HR:=hid2 r5
 clear Rs5 T5 r5 BF one
 generalize hWF:putRow w5 w.heap.size 0 Y.toList=WF at *
 clear hWF
 clear o1
 go_wp2_with fail
 refine bodyPost_ret (v:=.agg Y) (by simp[results,Tryz.results29,go_sem, *]) rfl (hO.out i L' _ _ vx vy hp2 ?_ (by rw[hY.out]) ((HS.out.turn TF.out (by simp;omega)).lower (by omega)) ?_)
 ·exact HT.out.trans TF.out (fun i hi=>.inr (by simp at hi;omega))
 ·exact HR.out.turn1 TF.out hL
set_option maxHeartbeats 4000000 in
set_option maxRecDepth 20000 in
theorem item_guard {z rb tb lb:Nat}{c:Int}{L:List Tk}{o:Nat}(_hz:z<=9223372036854775807){E:Ps}(HE:ExC z rb tb lb c o 21 E){A:Ps}{N:Nat}(HA:AcC z rb tb lb c o N 53 A)(hN:L.length<=N)(hDE:Dec E){t0:Tk}(hx:nxt c L=.ok t0)(h0:isT k_metric t0=false)(h1:isT k_reps t0=false)(h2:isT k_cooldown t0=false)(h3:isT k_let t0=false)(h4:isT k_guard t0=true)(w:World)(hr:Rea z w rb tb lb c L o):
 Calls Tryz.prog 29 #[.pointer (some ⟨rb,0,none⟩)] w (Out (VIt w.heap.size z) z w rb tb lb c o (guardP c E A t0.at_ L.tail)):=by
 obtain⟨pr,hpr⟩:∃ pr,Hid (pr=guardP c E A t0.at_ L.tail):=⟨_,rfl⟩
 rw[<-hpr.out]
 have hE:Hid (∀ f w',pr=.error f->Turn [rb] w w'->Out (VIt w.heap.size z) z w rb tb lb c o pr (.panicked [fltE f]) w'):=fun f w' h ht=>Out.mk_err h ht
 have hO:Hid (∀ i L' w' v vx vy,pr=.ok (i,L')->Turn [rb] w w'->v=itA i vx vy->ItB w.heap.size z w' i vx vy->Rea z w' rb tb lb c L' o->Out (VIt w.heap.size z) z w rb tb lb c o pr (.returned v) w'):=fun i L' w' v vx vy h ht hv hs hr'=>Out.mk_ok h ht ⟨vx,vy,hv,hs⟩ hr'
 generalize Out (VIt w.heap.size z) z w rb tb lb c o pr=Post at *
 have hL:=hr.lts
 have hne:w.heap.size∉[rb]:=by simp;omega
 obtain⟨m,hm19⟩:∃ m:Nat,Hid (m=19):=⟨_,rfl⟩
 have zs:∀ w,(sizeOf 53).run Tryz.prog w=.ok m w:=by rw[hm19.out];exact Tryz.sizeOf53
 have zm:(19=m)=True:=eq_true hm19.out.symm
 have Z0:=Box.new w zs19 53
 go_enter Tryz.func29,Tryz.ntmps29
 go_wp2_with fail
 have T0:=tnO (ob:=.cells (zs19).toArray 53) (Turn.refl [rb] w)
 have r0:=hr.onO (ob:=.cells (zs19).toArray 53)
 have Rs0:=Z0
 have zsz:w.heap.size<(w.alloc (.cells (zs19).toArray 53)).heap.size:=by simp
 have hz0:(w.alloc (.cells (zs19).toArray 53)).heap.size=w.heap.size+1:=by simp
 clear Z0
 generalize hW0:w.alloc _=w0 at *
 clear hW0
 clear hz0
 clear hr
 have HJ0:=fun W h=>is_ok (z:=z) (rb:=rb) (tb:=tb) (lb:=lb) (o:=o) hx k_metric W h
 rw[h0] at HJ0
 refine Calls.mono (HJ0 _ r0) ?_
 rintro e w1 ⟨rfl,b1⟩
 have t1:=Turn.of_below (S:=[rb]) b1
 have r1:=r0.next b1
 have Rs1:=Rs0.turn t1 hne
 have T1:=tn T0 t1
 have s1:=t1.size
 clear Rs0 T0 r0 b1 t1
 go_wp2_with fail
 clear HJ0
 have HJ1:=fun W h=>is_ok (z:=z) (rb:=rb) (tb:=tb) (lb:=lb) (o:=o) hx k_reps W h
 rw[h1] at HJ1
 refine Calls.mono (HJ1 _ r1) ?_
 rintro e w2 ⟨rfl,b2⟩
 have t2:=Turn.of_below (S:=[rb]) b2
 have r2:=r1.next b2
 have Rs2:=Rs1.turn t2 hne
 have T2:=tn T1 t2
 have s2:=t2.size
 clear Rs1 T1 r1 b2 t2
 go_wp2_with fail
 clear HJ1
 have HJ2:=fun W h=>is_ok (z:=z) (rb:=rb) (tb:=tb) (lb:=lb) (o:=o) hx k_cooldown W h
 rw[h2] at HJ2
 refine Calls.mono (HJ2 _ r2) ?_
 rintro e w3 ⟨rfl,b3⟩
 have t3:=Turn.of_below (S:=[rb]) b3
 have r3:=r2.next b3
 have Rs3:=Rs2.turn t3 hne
 have T3:=tn T2 t3
 have s3:=t3.size
 clear Rs2 T2 r2 b3 t3
 go_wp2_with fail
 clear HJ2
 have HJ3:=fun W h=>is_ok (z:=z) (rb:=rb) (tb:=tb) (lb:=lb) (o:=o) hx k_let W h
 rw[h3] at HJ3
 refine Calls.mono (HJ3 _ r3) ?_
 rintro e w4 ⟨rfl,b4⟩
 have t4:=Turn.of_below (S:=[rb]) b4
 have r4:=r3.next b4
 have Rs4:=Rs3.turn t4 hne
 have T4:=tn T3 t4
 have s4:=t4.size
 clear Rs3 T3 r3 b4 t4
 go_wp2_with fail
 clear HJ3
 have HJ4:=fun W h=>is_ok (z:=z) (rb:=rb) (tb:=tb) (lb:=lb) (o:=o) hx k_guard W h
 rw[h4] at HJ4
 refine Calls.mono (HJ4 _ r4) ?_
 rintro e w5 ⟨rfl,b5⟩
 have t5:=Turn.of_below (S:=[rb]) b5
 have r5:=r4.next b5
 have Rs5:=Rs4.turn t5 hne
 have T5:=tn T4 t5
 have s5:=t5.size
 clear Rs4 T4 r4 b5 t5
 go_wp2_with fail
 clear HJ4
 have HM:=hid2 (guard_c _hz HE HA hDE hN hx h4 _ r5)
 rw[<-hpr.out] at HM
 refine Calls.mono HM.out ?_
 intro e w6 h6
 rcases outI_up T5 h6 with ⟨f,rfl,hp,ht⟩ | ⟨i,vx,vy,L',he,hp2,t6,S6,rr6⟩
 ·go_wp2_with fail
  exact⟨rfl,hE.out _ _ hp ht⟩
 obtain⟨Y,hY⟩:∃ Y:Array Value,Hid (Y=(itC i vx vy).toArray):=⟨_,rfl⟩
 have he2:e=.returned (.agg Y):=by rw[he,hY.out]
 subst he2
 have Rs6:=Rs5.turn t6 hne
 have T6:=tn T5 t6
 have r6:=rr6
 have s6:=t6.size
 have HS:=hid2 S6
 have o1:Y.all (·.oneCell')=true:=by rw[hY.out];exact S6.one
 clear h6 t6 S6 HM rr6 he Rs5 T5 r5
 have sY:Y.size=19:=by rw[hY.out];rfl
 have one:∀ v∈Y.toList,v.oneCell'=true:=fun v hv=>Array.all_eq_true_iff_forall_mem.1 (o1) v (by simpa using hv)
 have stY:=st_at w.heap.size Y.toList 0 w6 _ Rs6 (by simp[sY]) one
 have TF:=hid2 (putRow_turn w.heap.size Y.toList 0 w6)
 have BF:=putRow_whole Rs6 (X:=Y.toList) (by simp[sY])
 have ldF:=ld_row (X:=Y) BF rfl (n:=m) (by simp[sY,hm19.out])
 have pl:=Rs6.lt
 have HT:=hid2 T6
 have HR:=hid2 r6
 clear Rs6 T6 r6 BF one
 generalize hWF:putRow w6 w.heap.size 0 Y.toList=WF at *
 clear hWF
 clear o1
 go_wp2_with fail
 refine bodyPost_ret (v:=.agg Y) (by simp[results,Tryz.results29,go_sem, *]) rfl (hO.out i L' _ _ vx vy hp2 ?_ (by rw[hY.out]) ((HS.out.turn TF.out (by simp;omega)).lower (by omega)) ?_)
 ·exact HT.out.trans TF.out (fun i hi=>.inr (by simp at hi;omega))
 ·exact HR.out.turn1 TF.out hL
set_option maxHeartbeats 4000000 in
set_option maxRecDepth 20000 in
theorem item_decide {z rb tb lb:Nat}{c:Int}{L:List Tk}{o:Nat}(_hz:z<=9223372036854775807){A:Ps}{N:Nat}(HA:AcC z rb tb lb c o N 53 A)(hN:L.length<=N){t0:Tk}(hx:nxt c L=.ok t0)(h0:isT k_metric t0=false)(h1:isT k_reps t0=false)(h2:isT k_cooldown t0=false)(h3:isT k_let t0=false)(h4:isT k_guard t0=false)(h5:isT k_decide t0=true)(w:World)(hr:Rea z w rb tb lb c L o):
 Calls Tryz.prog 29 #[.pointer (some ⟨rb,0,none⟩)] w (Out (VIt w.heap.size z) z w rb tb lb c o (decideP A t0.at_ L.tail)):=by
 obtain⟨pr,hpr⟩:∃ pr,Hid (pr=decideP A t0.at_ L.tail):=⟨_,rfl⟩
 rw[<-hpr.out]
 have hE:Hid (∀ f w',pr=.error f->Turn [rb] w w'->Out (VIt w.heap.size z) z w rb tb lb c o pr (.panicked [fltE f]) w'):=fun f w' h ht=>Out.mk_err h ht
 have hO:Hid (∀ i L' w' v vx vy,pr=.ok (i,L')->Turn [rb] w w'->v=itA i vx vy->ItB w.heap.size z w' i vx vy->Rea z w' rb tb lb c L' o->Out (VIt w.heap.size z) z w rb tb lb c o pr (.returned v) w'):=fun i L' w' v vx vy h ht hv hs hr'=>Out.mk_ok h ht ⟨vx,vy,hv,hs⟩ hr'
 generalize Out (VIt w.heap.size z) z w rb tb lb c o pr=Post at *
 have hL:=hr.lts
 have hne:w.heap.size∉[rb]:=by simp;omega
 have hm1:=mustS_of hx h5
 have hLN:L.tail.length<=N:=Nat.le_trans (tail_le L) hN
 obtain⟨m,hm19⟩:∃ m:Nat,Hid (m=19):=⟨_,rfl⟩
 have zs:∀ w,(sizeOf 53).run Tryz.prog w=.ok m w:=by rw[hm19.out];exact Tryz.sizeOf53
 have zm:(19=m)=True:=eq_true hm19.out.symm
 have Z0:=Box.new w zs19 53
 go_enter Tryz.func29,Tryz.ntmps29
 go_wp2_with fail
 have T0:=tnO (ob:=.cells (zs19).toArray 53) (Turn.refl [rb] w)
 have r0:=hr.onO (ob:=.cells (zs19).toArray 53)
 have Rs0:=Z0
 have zsz:w.heap.size<(w.alloc (.cells (zs19).toArray 53)).heap.size:=by simp
 have hz0:(w.alloc (.cells (zs19).toArray 53)).heap.size=w.heap.size+1:=by simp
 clear Z0
 generalize hW0:w.alloc _=w0 at *
 clear hW0
 clear hz0
 clear hr
 have HJ0:=fun W h=>is_ok (z:=z) (rb:=rb) (tb:=tb) (lb:=lb) (o:=o) hx k_metric W h
 rw[h0] at HJ0
 refine Calls.mono (HJ0 _ r0) ?_
 rintro e w1 ⟨rfl,b1⟩
 have t1:=Turn.of_below (S:=[rb]) b1
 have r1:=r0.next b1
 have Rs1:=Rs0.turn t1 hne
 have T1:=tn T0 t1
 have s1:=t1.size
 clear Rs0 T0 r0 b1 t1
 go_wp2_with fail
 clear HJ0
 have HJ1:=fun W h=>is_ok (z:=z) (rb:=rb) (tb:=tb) (lb:=lb) (o:=o) hx k_reps W h
 rw[h1] at HJ1
 refine Calls.mono (HJ1 _ r1) ?_
 rintro e w2 ⟨rfl,b2⟩
 have t2:=Turn.of_below (S:=[rb]) b2
 have r2:=r1.next b2
 have Rs2:=Rs1.turn t2 hne
 have T2:=tn T1 t2
 have s2:=t2.size
 clear Rs1 T1 r1 b2 t2
 go_wp2_with fail
 clear HJ1
 have HJ2:=fun W h=>is_ok (z:=z) (rb:=rb) (tb:=tb) (lb:=lb) (o:=o) hx k_cooldown W h
 rw[h2] at HJ2
 refine Calls.mono (HJ2 _ r2) ?_
 rintro e w3 ⟨rfl,b3⟩
 have t3:=Turn.of_below (S:=[rb]) b3
 have r3:=r2.next b3
 have Rs3:=Rs2.turn t3 hne
 have T3:=tn T2 t3
 have s3:=t3.size
 clear Rs2 T2 r2 b3 t3
 go_wp2_with fail
 clear HJ2
 have HJ3:=fun W h=>is_ok (z:=z) (rb:=rb) (tb:=tb) (lb:=lb) (o:=o) hx k_let W h
 rw[h3] at HJ3
 refine Calls.mono (HJ3 _ r3) ?_
 rintro e w4 ⟨rfl,b4⟩
 have t4:=Turn.of_below (S:=[rb]) b4
 have r4:=r3.next b4
 have Rs4:=Rs3.turn t4 hne
 have T4:=tn T3 t4
 have s4:=t4.size
 clear Rs3 T3 r3 b4 t4
 go_wp2_with fail
 clear HJ3
 have HJ4:=fun W h=>is_ok (z:=z) (rb:=rb) (tb:=tb) (lb:=lb) (o:=o) hx k_guard W h
 rw[h4] at HJ4
 refine Calls.mono (HJ4 _ r4) ?_
 rintro e w5 ⟨rfl,b5⟩
 have t5:=Turn.of_below (S:=[rb]) b5
 have r5:=r4.next b5
 have Rs5:=Rs4.turn t5 hne
 have T5:=tn T4 t5
 have s5:=t5.size
 clear Rs4 T4 r4 b5 t5
 go_wp2_with fail
 clear HJ4
 have HJ5:=fun W h=>is_ok (z:=z) (rb:=rb) (tb:=tb) (lb:=lb) (o:=o) hx k_decide W h
 rw[h5] at HJ5
 refine Calls.mono (HJ5 _ r5) ?_
 rintro e w6 ⟨rfl,b6⟩
 have t6:=Turn.of_below (S:=[rb]) b6
 have r6:=r5.next b6
 have Rs6:=Rs5.turn t6 hne
 have T6:=tn T5 t6
 have s6:=t6.size
 clear Rs5 T5 r5 b6 t6
 go_wp2_with fail
 clear HJ5
 rw[decideP] at hpr
 refine Calls.mono (must_c k_decide _ r6) ?_
 rintro e w7 h7
 obtain⟨t7,_,rfl,rfl,r7⟩:=Out.of_ok hm1 h7
 have Rs7:=Rs6.turn t7 hne
 have T7:=tn T6 t7
 have s7:=t7.size
 clear Rs6 T6 r6 h7 t7
 go_wp2_with fail
 refine Calls.mono (HA _ hLN _ r7) ?_
 rintro e w8 h8
 rcases hy1:A L.tail with f | q
 ·obtain⟨rfl,t8⟩:=Out.of_err hy1 h8
  go_wp2_with fail
  exact⟨rfl,hE.out _ _ (by rw[hpr.out,hy1];rfl) (tn T7 t8)⟩
 obtain⟨t8,_,rfl,⟨u8,rfl,S8⟩,r8⟩:=Out.of_ok hy1 h8
 have Rs8:=Rs7.turn t8 hne
 have T8:=tn T7 t8
 have s8:=t8.size
 clear Rs7 T7 r7 h8 t8
 have hpr1:Hid (pr=.ok (itm 7 noB noB 0 0 0 nilM q.1 t0.at_,q.2)):=by show _=_;rw[hpr.out,hy1];rfl
 simp only[tmV]
 obtain⟨av,cv,hu,-,-⟩:=S8.parts.shape
 subst hu
 have HS:=hid2 S8
 clear S8
 generalize hnn:q.1.parts.length=nn at *
 obtain⟨Y,hY⟩:∃ Y:Array Value,Hid (Y=(itC ⟨7,⟨#[]⟩,⟨#[]⟩,0,0,0,nilM,q.1,(t0.at_:Int)⟩ (.slice none 0 0) (.slice av nn cv)).toArray):=⟨_,rfl⟩
 have o1:Y.all (·.oneCell')=true:=by rw[hY.out];kernel_rfl
 have sY:Y.size=19:=by rw[hY.out];rfl
 have one:∀ v∈Y.toList,v.oneCell'=true:=fun v hv=>Array.all_eq_true_iff_forall_mem.1 (o1) v (by simpa using hv)
 have stY:=st_at w.heap.size Y.toList 0 w8 _ Rs8 (by simp[sY]) one
 have TF:=hid2 (putRow_turn w.heap.size Y.toList 0 w8)
 have BF:=putRow_whole Rs8 (X:=Y.toList) (by simp[sY])
 have ldF:=ld_row (X:=Y) BF rfl (n:=m) (by simp[sY,hm19.out])
 have pl:=Rs8.lt
 have HT:=hid2 T8
 have HR:=hid2 r8
 clear Rs8 T8 r8 BF one
 generalize hWF:putRow w8 w.heap.size 0 Y.toList=WF at *
 clear hWF
 clear o1
 go_wp2_with (refine wpList_it3 rfl _ _ _ rfl 7 (t0.at_:Int) q.1 (.slice av nn cv) rfl rfl rfl Y hY.out ?_)
 refine bodyPost_ret (v:=.agg Y) (by simp[results,Tryz.results29,go_sem, *]) rfl (hO.out ⟨7,⟨#[]⟩,⟨#[]⟩,0,0,0,nilM,q.1,(t0.at_:Int)⟩ q.2 _ _ (.slice none 0 0) (.slice av nn cv) (hpr1.out) ?_ (by rw[hY.out]) ⟨nil_sits z _,SitB.lower (SitB.turn HS.out TF.out (by simp;omega)) (by omega),Nat.zero_le _,Nat.zero_le _⟩ ?_)
 ·exact HT.out.trans TF.out (fun i hi=>.inr (by simp at hi;omega))
 ·exact HR.out.turn1 TF.out hL
set_option maxHeartbeats 1000000 in
theorem item_no {z rb tb lb:Nat}{c:Int}{L:List Tk}{o:Nat}{f:Flt}(hx:nxt c L=.error f)(w:World)(hr:Rea z w rb tb lb c L o):
 Calls Tryz.prog 29 #[.pointer (some ⟨rb,0,none⟩)] w fun e w'=>e=.panicked [fltE f]/\Below w.heap.size w w':=by
 have HN:=hid2 (is_err hx k_metric _ (hr.onO (ob:=.cells (zs19).toArray 53)))
 clear hr hx
 go_enter Tryz.func29,Tryz.ntmps29
 go_wp2_with fail
 refine Calls.mono HN.out ?_
 rintro e w1 ⟨rfl,b1⟩
 go_wp2_with fail
 exact⟨rfl,rfl,below_on ((Below.refl _ _).alloc (Nat.le_refl _) _) b1 (by simp)⟩
set_option maxHeartbeats 1000000 in
theorem item_else {z rb tb lb:Nat}{c:Int}{L:List Tk}{o:Nat}{t0:Tk}(hx:nxt c L=.ok t0)(h0:isT k_metric t0=false)(h1:isT k_reps t0=false)(h2:isT k_cooldown t0=false)(h3:isT k_let t0=false)(h4:isT k_guard t0=false)(h5:isT k_decide t0=false)(w:World)(hr:Rea z w rb tb lb c L o):
 Calls Tryz.prog 29 #[.pointer (some ⟨rb,0,none⟩)] w fun e w'=>e=.panicked [fltE (t0.at_,16)]/\Below w.heap.size w w':=by
 have b0:=(Below.refl w.heap.size w).alloc (Nat.le_refl _) (.cells (zs19).toArray 53)
 have H0:=hid2 (fun W (k:Below w.heap.size w W)=>is_ok hx k_metric W (hr.next k))
 rw[h0] at H0
 have H1:=hid2 (fun W (k:Below w.heap.size w W)=>is_ok hx k_reps W (hr.next k))
 rw[h1] at H1
 have H2:=hid2 (fun W (k:Below w.heap.size w W)=>is_ok hx k_cooldown W (hr.next k))
 rw[h2] at H2
 have H3:=hid2 (fun W (k:Below w.heap.size w W)=>is_ok hx k_let W (hr.next k))
 rw[h3] at H3
 have H4:=hid2 (fun W (k:Below w.heap.size w W)=>is_ok hx k_guard W (hr.next k))
 rw[h4] at H4
 have H5:=hid2 (fun W (k:Below w.heap.size w W)=>is_ok hx k_decide W (hr.next k))
 rw[h5] at H5
 have HU:=hid2 (fun W (k:Below w.heap.size w W)=>unfit_ok hx W (hr.next k))
 clear hr hx h0 h1 h2 h3 h4 h5
 go_enter Tryz.func29,Tryz.ntmps29
 go_wp2_with fail
 refine Calls.mono (H0.out _ b0) ?_
 rintro e w1 ⟨rfl,c1⟩
 have b1:=below_on b0 c1 b0.size
 go_wp2_with fail
 refine Calls.mono (H1.out _ b1) ?_
 rintro e w2 ⟨rfl,c2⟩
 have b2:=below_on b1 c2 b1.size
 go_wp2_with fail
 refine Calls.mono (H2.out _ b2) ?_
 rintro e w3 ⟨rfl,c3⟩
 have b3:=below_on b2 c3 b2.size
 go_wp2_with fail
 refine Calls.mono (H3.out _ b3) ?_
 rintro e w4 ⟨rfl,c4⟩
 have b4:=below_on b3 c4 b3.size
 go_wp2_with fail
 refine Calls.mono (H4.out _ b4) ?_
 rintro e w5 ⟨rfl,c5⟩
 have b5:=below_on b4 c5 b4.size
 go_wp2_with fail
 refine Calls.mono (H5.out _ b5) ?_
 rintro e w6 ⟨rfl,c6⟩
 have b6:=below_on b5 c6 b5.size
 go_wp2_with fail
 refine Calls.mono (HU.out _ b6) ?_
 rintro e w7 ⟨rfl,c7⟩
 go_wp2_with fail
 exact⟨rfl,rfl,below_on b6 c7 b6.size⟩
theorem item_c {z rb tb lb:Nat}{c:Int}{o N:Nat}(hz:z<=9223372036854775807){E A:Ps}(HE:ExC z rb tb lb c o 21 E)(hDE:Dec E)(HA:AcC z rb tb lb c o N 53 A){L:List Tk}(hN:L.length<=N)(w:World)(hr:Rea z w rb tb lb c L o):
 Calls Tryz.prog 29 #[.pointer (some ⟨rb,0,none⟩)] w (Out (VIt w.heap.size z) z w rb tb lb c o (itemP c E A L)):=by
 unfold itemP
 rcases hx:nxt c L with f | t0
 ·exact(item_no hx w hr).mono fun e w' ⟨h1,h2⟩=>h1 ▸ Out.mk_err rfl (Turn.of_below h2)
 ·rw[bnd_ok]
  cases h0:isT k_metric t0 with
  | true=>rw[if_pos rfl];exact item_metric hz hx h0 w hr
  | false=>
    rw[if_neg (by simp)]
    cases h1:isT k_reps t0 with
    | true=>rw[if_pos rfl];exact item_reps hz hx h0 h1 w hr
    | false=>
      rw[if_neg (by simp)]
      cases h2:isT k_cooldown t0 with
      | true=>rw[if_pos rfl];exact item_cool hz hx h0 h1 h2 w hr
      | false=>
        rw[if_neg (by simp)]
        cases h3:isT k_let t0 with
        | true=>rw[if_pos rfl];exact item_let hz HE hx h0 h1 h2 h3 w hr
        | false=>
          rw[if_neg (by simp)]
          cases h4:isT k_guard t0 with
          | true=>rw[if_pos rfl];exact item_guard hz HE HA hN hDE hx h0 h1 h2 h3 h4 w hr
          | false=>
            rw[if_neg (by simp)]
            cases h5:isT k_decide t0 with
            | true=>rw[if_pos rfl];exact item_decide hz HA hN hx h0 h1 h2 h3 h4 h5 w hr
            | false=>
              rw[if_neg (by simp)]
              exact(item_else hx h0 h1 h2 h3 h4 h5 w hr).mono fun e w' ⟨g1,g2⟩=>g1 ▸ Out.mk_err rfl (Turn.of_below g2)
abbrev zs2:List Value:=[.string ⟨#[]⟩,.slice none 0 0]
structure ItQ (Q:Nat->Prop)(z:Nat)(w:World)(i:It)(vx vy:Value):Prop where
 sx:SitQ Q z w i.x vx
 sy:SitQ Q z w i.y vy
 nm:i.name.size<=z
 un:i.unit.size<=z
abbrev It3:=It×Value×Value
def flI (l:List It3):List Value:=(l.map fun p=>itC p.1 p.2.1 p.2.2).flatten
theorem flI_append (a b:List It3):flI (a++b)=flI a++flI b:=by simp[flI]
theorem flI_cons (p:It3)(l:List It3):flI (p::l)=itC p.1 p.2.1 p.2.2++flI l:=rfl
theorem flI_len (l:List It3):(flI l).length=l.length*19:=by
 induction l with
 | nil=>rfl
 | cons p r ih=>rw[flI_cons,List.length_append,ih,List.length_cons];simp;omega
theorem flI_get:∀ (l:List It3) (i q:Nat),q<19->(hi:i<l.length)->(flI l)[i*19+q]? = (itC l[i].1 l[i].2.1 l[i].2.2)[q]?
 | [],i,q,_,hi=>by simp at hi
 | p::r,0,q,hq,hi=>by
   rw[flI_cons,Nat.zero_mul,Nat.zero_add,List.getElem?_append_left (by simpa using hq)]
   rfl
 | p::r,i+1,q,hq,hi=>by
   rw[flI_cons,List.getElem?_append_right (by simp;omega)]
   rw[show (i+1)*19+q-(itC p.1 p.2.1 p.2.2).length=i*19+q by simp;omega]
   exact flI_get r i q hq (by simpa using hi)
structure IaO (B z:Nat)(W:World)(v:Value)(l:List It3):Prop where
 own:W.ownsRow B 53 19 v l.length (flI l)
 sit:∀ p,p∈l->ItQ (fun b=>B<=b/\v.ownBlock≠some b) z W p.1 p.2.1 p.2.2
theorem ItQ.turn {S:List Nat}{Q:Nat->Prop}{z:Nat}{w w':World}{i:It}{vx vy:Value}(h:ItQ Q z w i vx vy)(k:Turn S w w')(hS:∀ q∈S,¬ Q q):ItQ Q z w' i vx vy:=⟨h.sx.turnQ k hS,h.sy.turnQ k hS,h.nm,h.un⟩
theorem ItQ.weak {Q Q':Nat->Prop}{z:Nat}{w:World}{i:It}{vx vy:Value}(h:ItQ Q z w i vx vy)(hk:∀ b,b<w.heap.size->Q b->Q' b):ItQ Q' z w i vx vy:=⟨h.sx.weak hk,h.sy.weak hk,h.nm,h.un⟩
theorem IaO.turn {S:List Nat}{B z:Nat}{w w':World}{v:Value}{l:List It3}(h:IaO B z w v l)(k:Turn S w w')(hS:∀ i∈S,i<B):IaO B z w' v l:=
 ⟨ownQ_turn h.own k hS,fun p hp=>(h.sit p hp).turn k (fun q hq hh=>by have:=hS q hq;have:=hh.1;omega)⟩
theorem IaO.nil (B z:Nat)(w:World):IaO B z w (.slice none 0 0) []:=⟨⟨rfl,.inl ⟨rfl,rfl⟩⟩,fun _ hp=>by cases hp⟩
theorem IaO.val {B z:Nat}{w:World}{v:Value}{l:List It3}(h:IaO B z w v l):∃ a n,v=.slice a l.length n:=own_val h.own
theorem IaO.blk {B z:Nat}{w:World}{v:Value}{l:List It3}(h:IaO B z w v l)(g:Nat)(hg:v.ownBlock=some g):B<=g/\g<w.heap.size:=h.own.lt g hg
theorem IaO.lower {B B' z:Nat}{w:World}{v:Value}{l:List It3}(h:IaO B z w v l)(hB:B'<=B):IaO B' z w v l:=by
 refine⟨?_,fun p hp=>(h.sit p hp).weak (fun b _ hq=>⟨Nat.le_trans hB hq.1,hq.2⟩)⟩
 obtain⟨h1,h2⟩:=h.own
 refine⟨h1,?_⟩
 rcases h2 with h2 | ⟨g,cap,cur,rfl,h3,h4⟩
 ·exact .inl h2
 ·exact .inr ⟨g,cap,cur,rfl,Nat.le_trans hB h3,h4⟩
theorem turn_two (w:World)(g:Nat)(v0 v1:Value):Turn [g] w ((w.setCell ⟨g,0,none⟩ v0).setCell ⟨g,1,none⟩ v1):=turn_one (turn_set _ _ _ _) (turn_set _ _ _ _)
structure PoB (B z:Nat)(w:World)(p:ByteArray×List It)(u:Value):Prop where
 it:∃ l:List It3,p.2=l.map Prod.fst/\IaO B z w u l
 nm:p.1.size<=z
abbrev VPo (B z:Nat):ByteArray×List It->Value->World->Prop:=fun p v w'=>∃ u,v=.agg #[.string p.1,u]/\PoB B z w' p u
theorem info_it2:(Tryz.prog.info? 53).map (fun i=>(i.zero,i.size,i.bytes))=some (some (.agg zs19.toArray),19,216):=by kernel_rfl
theorem IaO.grows {B z:Nat}{w w':World}{v v':Value}{l qs:List It3}(h:IaO B z w v l)(hq:∀ p,p∈qs->ItQ (fun b=>B<=b/\v.ownBlock≠some b) z w p.1 p.2.1 p.2.2)(ob:Obj)
 (ho:w'.ownsRow B 53 19 v' (l.length+qs.length) (flI l++flI qs)) (hg:(w.alloc ob).grownBy w' v.ownBlock) (hb:v'.ownBlock=v.ownBlock\/v'.ownBlock=some (w.alloc ob).heap.size):IaO B z w' v' (l++qs):=by
 refine⟨by rw[flI_append,List.length_append];exact ho,fun p hp=>?_⟩
 have hs:ItQ (fun b=>B<=b/\v.ownBlock≠some b) z w p.1 p.2.1 p.2.2:=by
  rcases List.mem_append.1 hp with h1 | h1
  ·exact h.sit p h1
  ·exact hq p h1
 have hsz:=hg.size
 simp only[World.size_alloc] at hsz hb
 have k1:∀ b,b<w.heap.size->v.ownBlock≠some b->v'.ownBlock≠some b:=fun b h1 h2=>by
  rcases hb with h3 | h3
  ·rw[h3];exact h2
  ·rw[h3];intro he;cases he;omega
 have k2:∀ b,b<w.heap.size->v.ownBlock≠some b->∀ j,w'.cell? ⟨b,j,none⟩=w.cell? ⟨b,j,none⟩:=fun b h1 h2 j=>by
  have h3:=hg.block b (by simp;omega) (fun he=>h2 he.symm)
  have h4:=World.cell?_of_block (a:=⟨b,j,none⟩) h3
  rw[h4]
  exact World.cell?_alloc_lt _ _ _ h1
 have key:∀ t u,SitQ (fun b=>B<=b/\v.ownBlock≠some b) z w t u->SitQ (fun b=>B<=b/\v'.ownBlock≠some b) z w' t u:=fun t u hs=>SitQ.keep (by omega) (fun b h1 h2=>⟨⟨h2.1,k1 b h1 h2.2⟩,k2 b h1 h2.2⟩) _ _ hs
 exact⟨key _ _ hs.sx,key _ _ hs.sy,hs.nm,hs.un⟩
structure PoS (z:Nat)(w W:World)(rb tb lb:Nat)(c:Int)(o g:Nat)(nm:ByteArray)(Lr:List Tk)(v:Value)(l:List It3):Prop where
 rs:Box W w.heap.size zs2
 lt:Box W g [.string nm,v]
 pa:IaO (g+1) z W v l
 re:Rea z W rb tb lb c Lr o
 tn:Turn [rb] w W
 gg:w.heap.size<g
 hr:rb<w.heap.size/\tb<w.heap.size/\lb<w.heap.size
theorem PoS.turn {z:Nat}{w W W':World}{rb tb lb:Nat}{c:Int}{o g:Nat}{nm:ByteArray}{Lr Lq:List Tk}{v:Value}{l:List It3}(h:PoS z w W rb tb lb c o g nm Lr v l)(k:Turn [rb] W W')(r:Rea z W' rb tb lb c Lq o):PoS z w W' rb tb lb c o g nm Lq v l:=by
 have h1:=h.gg
 have h2:=h.hr
 exact⟨h.rs.turn k (by simp;omega),h.lt.turn k (by simp;omega),h.pa.turn k (by simp;omega),r,Go.Proofs.YtecdfnpbcabdnaaGreatDoor.tn h.tn k,h.gg,h.hr⟩
theorem PoS.next {z:Nat}{w W W':World}{rb tb lb:Nat}{c:Int}{o g:Nat}{nm:ByteArray}{Lr:List Tk}{v:Value}{l:List It3}(h:PoS z w W rb tb lb c o g nm Lr v l)(k:Below W.heap.size W W'):PoS z w W' rb tb lb c o g nm Lr v l:=
 h.turn (Turn.of_below k) (h.re.next k)
theorem PoS.added {z:Nat}{w W W':World}{rb tb lb:Nat}{c:Int}{o g kk:Nat}{nm:ByteArray}{Lr:List Tk}{v v':Value}{l k:List It3}(h:PoS z w W rb tb lb c o g nm Lr v l)(p:IaO (g+1) z W' v' k)(hk:g+1<=kk)(t:Turn [kk] W W'):PoS z w (W'.setCell ⟨g,1,none⟩ v') rb tb lb c o g nm Lr v' k:=by
 have h1:=h.gg
 have h2:=h.hr
 exact⟨(h.rs.turn t (by simp;omega)).other (by omega),(h.lt.turn t (by simp;omega)).set 1 (by simp) v',p.turn (turn_set W' g 1 v') (by simp),(h.re.turn1 t (by omega)).turn1 (turn_set W' g 1 v') (by omega),(h.tn.trans t (fun i hi=>.inr (by simp at hi;omega))).andSet _ _ (.inr (by show w.heap.size<=g;omega)),h1,h2⟩
theorem bs_fill (i:It)(vx vy:Value):Instr.fill (fun k=>some (k*19,19)) ((Array.range (1*19)).map (zs19.toArray[· % zs19.toArray.size]!)) [(0,.agg (itC i vx vy).toArray)]=some (itC i vx vy).toArray:=by kernel_rfl
theorem wpList_bs {ops:Array Oper}{rest:List Oper}{o:Oper}{a:Act}{w:World}{Q:Exit->Act->World->Prop}(hg:o.guard=none)(x:Operand)(ho:o.op=.buildSlice 23 1 #[(0,x)])(i:It)(vx vy:Value)(Y:Array Value)(hY:Y=(itC i vx vy).toArray)(hx:a.eval x=.agg Y)
 (h:wpList Tryz.prog ops Q rest (a.put o.dst (.slice (some ⟨w.heap.size,0,none⟩) 1 1)) (w.alloc (.cells Y 53))):wpList Tryz.prog ops Q (o::rest) a w:=by
 obtain⟨i0,hi,hz0,hz1,hz2⟩:=info_parts info_it2
 refine wpList_buildSlice hg 23 53 1 #[(0,x)] ho Y i0 (.agg zs19.toArray) Tryz.underlying23 hi hz0 (by rw[hz1];decide) (by rw[hz1];decide) ?_ h
 rw[hz1,hY]
 have:=bs_fill i vx vy
 simpa[hx,hY,Value.cells] using this
theorem wpList_append_it {ops:Array Oper}{rest:List Oper}{o:Oper}{a:Act}{w:World}{Q:Exit->Act->World->Prop}{z:Nat}(hgd:o.guard=none)(w0:World)(B:Nat)(s x:Operand)
 (hop:o.op=Op.call {callee:=Callee.builtin Builtin.append,args:=#[s,x],argTypes:=#[23,23]}) (v:Value) (l qs:List It3) (hw:w=w0.alloc (.cells (flI qs).toArray 53)) (hs:a.eval s=v) (h:IaO B z w0 v l)
 (hq:∀ p,p∈qs->ItQ (fun b=>B<=b/\v.ownBlock≠some b) z w0 p.1 p.2.1 p.2.2) (h1:∀ u∈flI qs,u.oneCell'=true) (hl:l.length+qs.length<=1000000) (hB:B<=w0.heap.size)
 (hx:a.eval x=.slice (some ⟨w0.heap.size,0,none⟩) qs.length qs.length)
 (hK:∀ a' c' w' k,IaO B z w' (.slice a' (l.length+qs.length) c') (l++qs)->B<=k->(v.ownBlock=some k\/k=w0.heap.size)->Turn [k] w0 w'->wpList Tryz.prog ops Q rest (a.put o.dst (.slice a' (l.length+qs.length) c')) w') :
 wpList Tryz.prog ops Q (o::rest) a w:=by
 subst hw
 obtain⟨i0,hi,hz0,hz1,hz2⟩:=info_parts info_it2
 refine wpList_append_own_at (P:=Tryz.prog) _ hgd s x 23 hop B 53 i0 _ 19 216 Tryz.underlying23 hi hz0 hz1 hz2 rfl (by decide) v l.length (flI l) hs (h.own.alloc _) ⟨w0.heap.size,0,none⟩ qs.length qs.length (flI qs) hx (flI_len qs)
  (fun j u hj=>by
    have hadd:(⟨w0.heap.size,0,none⟩:Addr).add j=⟨w0.heap.size,j,none⟩:=by unfold Addr.add;split<;>simp_all
    rw[hadd]
    exact(Box.new w0 (flI qs) 53).cell j u hj)
  h1 (by unfold maxLen;omega) (by omega) (by simp;omega) ?_
 intro v' w' ho hg _ hb
 obtain⟨a',c',rfl⟩:=own_val ho
 obtain⟨k,hk1,hk2,hk3⟩:∃ k,B<=k/\(v.ownBlock=some k\/k=w0.heap.size)/\∀ q,v.ownBlock=some q->q∈[k]:=by
  rcases hv:v.ownBlock with _ | q
  ·exact⟨w0.heap.size,hB,.inr rfl,fun q hq=>by cases hq⟩
  ·exact⟨q,(h.own.lt q hv).1,.inl rfl,fun q' hq'=>by cases hq';simp⟩
 exact hK a' c' w' k (h.grows hq _ ho hg hb) hk1 hk2 (own_turnG rfl hg [k] hk3)
set_option maxHeartbeats 4000000 in
set_option maxRecDepth 20000 in
theorem policy_c {z rb tb lb:Nat}{c:Int}{L:List Tk}{o:Nat}(hz:z<=9223372036854775807){N:Nat}{E A:Ps}(HE:ExC z rb tb lb c o 21 E)(hDE:Dec E)(hDA:Dec A)(HA:AcC z rb tb lb c o N 53 A)(hN:L.length<=N)(hN2:N<=1000000)(w:World)(hr:Rea z w rb tb lb c L o):
 Calls Tryz.prog 14 #[.pointer (some ⟨rb,0,none⟩)] w (Out (VPo w.heap.size z) z w rb tb lb c o (polP c E A L)):=by
 obtain⟨pr,hpr⟩:∃ pr,Hid (pr=polP c E A L):=⟨_,rfl⟩
 rw[<-hpr.out]
 have hE:Hid (∀ f w',pr=.error f->Turn [rb] w w'->Out (VPo w.heap.size z) z w rb tb lb c o pr (.panicked [fltE f]) w'):=fun f w' h ht=>Out.mk_err h ht
 have hO:Hid (∀ p L' w' v u,pr=.ok (p,L')->Turn [rb] w w'->v=.agg #[.string p.1,u]->PoB w.heap.size z w' p u->Rea z w' rb tb lb c L' o->Out (VPo w.heap.size z) z w rb tb lb c o pr (.returned v) w'):=fun p L' w' v u h ht hv hs hr'=>Out.mk_ok h ht ⟨u,hv,hs⟩ hr'
 generalize Out (VPo w.heap.size z) z w rb tb lb c o pr=Post at *
 have hL:=hr.lts
 have hne:w.heap.size∉[rb]:=by simp;omega
 have fl1:=fld1
 obtain⟨m,hm19⟩:∃ m:Nat,Hid (m=19):=⟨_,rfl⟩
 have zs:∀ w,(sizeOf 53).run Tryz.prog w=.ok m w:=by rw[hm19.out];exact Tryz.sizeOf53
 have zm:(19=m)=True:=eq_true hm19.out.symm
 have Z0:=Box.new w zs2 25
 go_enter Tryz.func14,Tryz.ntmps14
 go_wp2_with fail
 have T0:=tnO (ob:=.cells (zs2).toArray 25) (Turn.refl [rb] w)
 have r0:=hr.onO (ob:=.cells (zs2).toArray 25)
 have Rs0:=Z0
 have zsz:w.heap.size<(w.alloc (.cells (zs2).toArray 25)).heap.size:=by simp
 have hz0:(w.alloc (.cells (zs2).toArray 25)).heap.size=w.heap.size+1:=by simp
 clear Z0
 generalize hW0:w.alloc _=w0 at *
 clear hW0
 clear hz0
 clear hr
 rw[polP] at hpr
 refine Calls.mono (must_c k_policy _ r0) ?_
 rintro e w1 h1
 rcases hy1:mustS c k_policy L with f | a
 ·obtain⟨rfl,t1⟩:=Out.of_err hy1 h1
  go_wp2_with fail
  exact⟨rfl,hE.out _ _ (by rw[hpr.out,hy1];rfl) (tn T0 t1)⟩
 obtain⟨t1,_,rfl,rfl,r1⟩:=Out.of_ok hy1 h1
 have Rs1:=Rs0.turn t1 hne
 have T1:=tn T0 t1
 have s1:=t1.size
 clear Rs0 T0 r0 h1 t1
 have hpr1:Hid (pr=bnd (takeK c 1 a.2) fun t=>bnd (mustS c k_sem t.2) fun b=>bnd (itemsP c E A b.2.length [] b.2) fun z=>.ok ((t.1.text,z.1),z.2)):=by show _=_;rw[hpr.out,hy1];rfl
 have htl1:=r1.tl
 go_wp2_with fail
 refine Calls.mono (take_c2 1 (by decide) _ r1) ?_
 rintro e w2 h2
 rcases hy2:takeK c 1 a.2 with f | q
 ·obtain⟨rfl,t2⟩:=Out.of_err hy2 h2
  go_wp2_with fail
  exact⟨rfl,hE.out _ _ (by rw[hpr1.out,hy2];rfl) (tn T1 t2)⟩
 obtain⟨t2,_,rfl,rfl,r2⟩:=Out.of_ok hy2 h2
 have Rs2:=Rs1.turn t2 hne
 have T2:=tn T1 t2
 have s2:=t2.size
 clear Rs1 T1 r1 h2 t2
 have hpr2:Hid (pr=bnd (mustS c k_sem q.2) fun b=>bnd (itemsP c E A b.2.length [] b.2) fun z=>.ok ((q.1.text,z.1),z.2)):=by show _=_;rw[hpr1.out,hy2];rfl
 simp only[tkW]
 go_wp2_with fail
 have t3:=tnO (ob:=.cells ([.string q.1.text,.slice none 0 0]).toArray 25) (Turn.refl [rb] w2)
 have r3:=r2.onO (ob:=.cells ([.string q.1.text,.slice none 0 0]).toArray 25)
 have Lt3:=Box.new w2 [.string q.1.text,.slice none 0 0] 25
 have hnLt:w2.heap.size∉[rb]:=by simp;omega
 have hxLt:w2.heap.size<(w2.alloc (.cells ([.string q.1.text,.slice none 0 0]).toArray 25)).heap.size:=by simp
 have Rs3:=Rs2.turn t3 hne
 have T3:=tn T2 t3
 have s3:=t3.size
 clear Rs2 T2 r2 t3
 generalize hW3:w2.alloc _=w3 at *
 clear hW3
 refine Calls.mono (must_c k_sem _ r3) ?_
 rintro e w4 h4
 rcases hy3:mustS c k_sem q.2 with f | b
 ·obtain⟨rfl,t4⟩:=Out.of_err hy3 h4
  go_wp2_with fail
  exact⟨rfl,hE.out _ _ (by rw[hpr2.out,hy3];rfl) (tn T3 t4)⟩
 obtain⟨t4,_,rfl,rfl,r4⟩:=Out.of_ok hy3 h4
 have Rs4:=Rs3.turn t4 hne
 have Lt4:=Lt3.turn t4 hnLt
 have T4:=tn T3 t4
 have s4:=t4.size
 clear Rs3 Lt3 T3 r3 h4 t4
 have hpr3:Hid (pr=bnd (itemsP c E A b.2.length [] b.2) fun z=>.ok ((q.1.text,z.1),z.2)):=by show _=_;rw[hpr2.out,hy3];rfl
 have hbN:b.2.length<=N:=by
  have h1:=dec_must hy1
  have h2:=dec_take hy2
  have h3:=dec_must hy3
  omega
 have C:PoS z w w4 rb tb lb c o (w2.heap.size) q.1.text b.2 (.slice none 0 0) []:=⟨Rs4,Lt4,IaO.nil _ _ _,r4,T4,by omega,hL⟩
 clear Rs4 Lt4 T4 r4
 obtain⟨g,hgg⟩:∃ g,Hid (g=w2.heap.size):=⟨_,rfl⟩
 rw[<-hgg.out] at C ⊢
 have HC0:=hid2 C
 clear C
 generalize hW:w4=W0 at *
 clear hW
 go_wp2_with fail
 go_loopw [] (fun wr=>∃ (Lr:List Tk) (v:Value) (l:List It3) (f:Nat),Lr.length<=f/\f<=N/\l.length+f<=N/\Hid (PoS z w wr rb tb lb c o g q.1.text Lr v l)/\Hid (pr=bnd (itemsP c E A f (l.map Prod.fst) Lr) fun z=>.ok ((q.1.text,z.1),z.2))) (fun wr=>rdLen wr rb)
 ·exact⟨b.2,_,_,b.2.length,Nat.le_refl _,hbN,by simp;omega,HC0,hpr3⟩
 obtain⟨Lr,v,l,f,hf,hfN,hl,HC,HQ⟩:=hrel
 have hpos:=HC.out.re.tl.pos
 have hlen:=HC.out.re.len
 obtain⟨f',rfl⟩:∃ f',f=f'+1:=⟨f-1,by omega⟩
 clear HC0 hpr3
 rw[itemsP_succ] at HQ
 have hgg0:=HC.out.gg
 go_wp2_with fail
 refine Calls.mono (item_c hz HE hDE HA (by omega) _ HC.out.re) ?_
 rintro e w1x h1
 rcases hz1:itemP c E A Lr with fl | x
 ·obtain⟨rfl,t1⟩:=Out.of_err hz1 h1
  go_wp2_with fail
  exact⟨rfl,hE.out _ _ (by rw[HQ.out,hz1];rfl) (tn HC.out.tn t1)⟩
 obtain⟨t1,ve,he,⟨vx,vy,hv,S1⟩,r1⟩:=Out.of_ok hz1 h1
 obtain⟨Y,hY⟩:∃ Y:Array Value,Hid (Y=(itC x.1 vx vy).toArray):=⟨_,rfl⟩
 have he2:e=.returned (.agg Y):=by rw[he,hv,hY.out]
 subst he2
 have o1:Y.all (·.oneCell')=true:=by rw[hY.out];exact S1.one
 have sY:Y.size=19:=by rw[hY.out];rfl
 have HC1:=hid2 (HC.out.turn t1 r1)
 have HQ1:Hid (pr=bnd (bnd (mustS c k_sem x.2) fun b=>if x.1.kind=7 then .ok (l.map Prod.fst++[x.1],b.2) else itemsP c E A f' (l.map Prod.fst++[x.1]) b.2) fun z=>.ok ((q.1.text,z.1),z.2)):=by show _=_;rw[HQ.out,hz1];rfl
 have sz1:=t1.size
 have hd1:=dec_item hDE hDA hz1
 have hbk:=hid2 HC.out.pa.blk
 have hlg:=HC.out.lt.lt
 have S2:ItQ (fun b=>g+1<=b/\v.ownBlock≠some b) z w1x x.1 vx vy:=by
  have hw:∀ b,b<w1x.heap.size->wr.heap.size<=b->g+1<=b/\v.ownBlock≠some b:=fun b _ hq=>⟨by omega,fun hh=>by have:=(hbk.out b hh).2;omega⟩
  exact⟨SitQ.weak S1.sx hw,SitQ.weak S1.sy hw,S1.nm,S1.un⟩
 have stY:=st_it w1x (X:=Y) sY o1
 unfold zeroI at stY
 clear h1 t1 r1 HC HQ S1 he hv
 have hbi0:wr.heap.size<=w1x.heap.size:=sz1
 go_wp2_with fail
 have al:=(Below.refl w1x.heap.size w1x).alloc (Nat.le_refl _) (.cells Y 53)
 have HC2:=hid2 (HC1.out.next al)
 have BI2:Box (w1x.alloc (.cells Y 53)) w1x.heap.size (itC x.1 vx vy):=by rw[hY.out];exact Box.new w1x _ _
 have S3:=S2.turn (S:=[]) (Turn.of_below al) (by simp)
 have hsz3:w1x.heap.size<(w1x.alloc (.cells Y 53)).heap.size:=by simp
 clear HC1 S2 al stY
 obtain⟨bi,hbi⟩:∃ bi,Hid (bi=w1x.heap.size):=⟨_,rfl⟩
 rw[<-hbi.out] at BI2 hsz3 ⊢
 have hbi1:g<bi:=by rw[hbi.out];omega
 have hbi2:w1x.heap.size<=bi:=by rw[hbi.out];exact Nat.le_refl _
 generalize hW3:w1x.alloc _=w3x at *
 clear hW3
 refine Calls.mono (must_c k_sem _ HC2.out.re) ?_
 rintro e w4x h1
 rcases hz2:mustS c k_sem x.2 with fl | d
 ·obtain⟨rfl,t1⟩:=Out.of_err hz2 h1
  go_wp2_with fail
  exact⟨rfl,hE.out _ _ (by rw[HQ1.out,hz2];rfl) (tn HC2.out.tn t1)⟩
 obtain⟨t1,_,rfl,rfl,r1⟩:=Out.of_ok hz2 h1
 have HC3:=hid2 (HC2.out.turn t1 r1)
 have HQ2:Hid (pr=bnd (if x.1.kind=7 then .ok (l.map Prod.fst++[x.1],d.2) else itemsP c E A f' (l.map Prod.fst++[x.1]) d.2) fun z=>.ok ((q.1.text,z.1),z.2)):=by show _=_;rw[HQ1.out,hz2];rfl
 have hd2:=dec_must hz2
 have hrb0:rb<w.heap.size:=hL.1
 have BI4:=BI2.turn t1 (by simp;omega)
 have S4:=S3.turn t1 (by simp only[List.mem_singleton];rintro i rfl hh;omega)
 have sz4:=t1.size
 have HX2:=hid2 HC2.out.re.tl.pos
 clear h1 t1 r1 HC2 HQ1 BI2 S3
 have c1:=HC3.out.lt.cell 1 _ rfl
 have f1:=HC3.out.lt.free 1 (by simp)
 have l1:=HC3.out.lt.lt
 have ldI:=ld_row (X:=Y) BI4 (by rw[hY.out]) (n:=m) hm19.out
 have k0:=BI4.cell 0 _ rfl
 have lI:=BI4.lt
 have HS4:=hid2 S4
 have HY:Hid (w4x.alloc (.cells Y 53)=w4x.alloc (.cells (flI [(x.1,vx,vy)]).toArray 53)):=by show _=_;rw[hY.out];simp[flI]
 have HO:Hid (∀ u∈flI [(x.1,vx,vy)],u.oneCell'=true):=fun u hu=>Array.all_eq_true_iff_forall_mem.1 o1 u (by rw[hY.out];simpa[flI] using hu)
 clear S4
 go_wp2_with (first
  | (refine wpList_bs rfl _ rfl x.1 vx vy Y hY.out rfl ?_)
  | (at_builtin;refine wpList_append_it (z:=z) rfl w4x (g+1) _ _ rfl v l [(x.1,vx,vy)] ?h1 ?h2 ?h3 ?h4 ?h5 ?h6 ?h7 ?h8 ?h9))
 case h1=>exact HY.out
 case h3=>exact HC3.out.pa
 case h4=>intro p hp;obtain rfl:=List.mem_singleton.1 hp;exact HS4.out
 case h5=>exact HO.out
 case h6=>simp;omega
 case h7=>omega
 intro a60 d60 wa k60 p60 hk60 ho60 b60
 have hkg:k60≠g:=by omega
 have hkb:k60≠bi:=by
  rcases ho60 with h | h
  ·have:=(hbk.out _ h).2
   omega
  ·omega
 have CA:=hid2 (HC3.out.added p60 hk60 b60)
 have e1:=(HC3.out.lt.turn b60 (by simp;omega)).cell 1 _ rfl
 have g1:=(HC3.out.lt.turn b60 (by simp;omega)).free 1 (by simp)
 have m1:=(HC3.out.lt.turn b60 (by simp;omega)).lt
 have e0:=(HC3.out.lt.turn b60 (by simp;omega)).cell 0 _ rfl
 have rsa:=HC3.out.rs.turn b60 (by simp;omega)
 have p0:=rsa.cell 0 _ rfl
 have p1:=rsa.cell 1 _ rfl
 have pf0:=rsa.free 0 (by simp)
 have pf1:=rsa.free 1 (by simp)
 have pl:=rsa.lt
 have hgw:g≠w.heap.size:=by omega
 clear rsa
 have BI6:=(BI4.turn b60 (by simp;omega)).other (q:=g) (j:=1) (v:=.slice a60 (l.length+[(x.1,vx,vy)].length) d60) (by omega)
 have i0:=BI6.cell 0 _ rfl
 have i1:=BI6.lt
 have ib0:=(BI4.turn b60 (by simp;omega)).cell 0 _ rfl
 have ib1:=(BI4.turn b60 (by simp;omega)).lt
 clear p60 b60 ho60 BI4 BI6 HC3 HS4 HY HO c1 f1 l1 ldI k0 lI hbk
 by_cases h7:x.1.kind=7
 ·have HQ3:Hid (pr=.ok ((q.1.text,l.map Prod.fst++[x.1]),d.2)):=by show _=_;rw[HQ2.out,if_pos h7];rfl
  rw[h7] at i0 ib0
  clear HQ2
  go_wp2_with fail
  refine bodyPost_ret (v:=.agg #[.string q.1.text,.slice a60 (l.length+1) d60]) (by simp[results,Tryz.results14,go_sem, *]) rfl (hO.out (q.1.text,l.map Prod.fst++[x.1]) d.2 _ _ (.slice a60 (l.length+1) d60) HQ3.out ?_ rfl ⟨⟨l++[(x.1,vx,vy)],by simp,?_⟩,(takeK_tl htl1 hy2 (by decide)).1.x⟩ ?_)
  ·exact CA.out.tn.trans (turn_two _ _ _ _) (fun i hi=>.inr (by simp at hi;omega))
  ·exact(CA.out.pa.turn (turn_two _ _ _ _) (by simp;omega)).lower (by omega)
  ·exact CA.out.re.turn1 (turn_two _ _ _ _) hL
 ·have HQ3:Hid (pr=bnd (itemsP c E A f' (l.map Prod.fst++[x.1]) d.2) fun z=>.ok ((q.1.text,z.1),z.2)):=by show _=_;rw[HQ2.out,if_neg h7]
  have hk7:(x.1.kind==7)=false:=by simpa using h7
  have hd3:d.2.length+1<=x.2.length:=by
   have h1:=mustS_len hz2
   have h2:=HX2.out
   rw[h1,List.length_tail]
   omega
  clear HQ2
  go_wp2_with fail
  go_roundw
  ·exact⟨d.2,_,_,f',by rw[List.length_tail] at hd1;omega,by omega,by simp;omega,CA,by show _=_;rw[HQ3.out];simp⟩
  ·rw[CA.out.re.len,hlen]
   rw[List.length_tail] at hd1
   omega
end Go.Proofs.YtecdfnpbcabdnaaGreatDoor

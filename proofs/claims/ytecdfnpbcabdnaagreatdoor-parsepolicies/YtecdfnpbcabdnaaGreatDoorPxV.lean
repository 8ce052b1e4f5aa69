/- Package parse: action. -/
import Derived.Test.YtecdfnpbcabdnaaGreatDoorPxU
namespace Go.Proofs.YtecdfnpbcabdnaaGreatDoor
open Go.RowKit Go.Lib

set_option maxHeartbeats 4000000 in
set_option maxRecDepth 20000 in
theorem act_hold {z rb tb lb : Nat} {c : Int} {L : List Tk} {o : Nat} (hz : z ≤ 9223372036854775807) {t0 : Tk} (hx : nxt c L = .ok t0) (h0 : isT k_hold t0 = true) (w : World) (hr : Rea z w rb tb lb c L o) :
    Calls Tryz.prog 53 #[.pointer (some ⟨rb, 0, none⟩)] w (Out (VTm w.heap.size z) z w rb tb lb c o ((.ok (tm 33 t0.at_ [], L.tail) : Rs Tm))) := by
  obtain ⟨pr, hpr⟩ : ∃ pr, Hid (pr = (.ok (tm 33 t0.at_ [], L.tail) : Rs Tm)) := ⟨_, rfl⟩
  rw [← hpr.out]
  have hE : Hid (∀ f w', pr = .error f → Turn [rb] w w' → Out (VTm w.heap.size z) z w rb tb lb c o pr (.panicked [fltE f]) w') := fun f w' h ht => Out.mk_err h ht
  have hO : Hid (∀ t L' w' v u, pr = .ok (t, L') → Turn [rb] w w' → v = tmV t u → SitB w.heap.size z w' t u → Rea z w' rb tb lb c L' o → Out (VTm w.heap.size z) z w rb tb lb c o pr (.returned v) w') := fun t L' w' v u h ht hv hs hr' => Out.mk_ok h ht ⟨u, hv, hs⟩ hr'
  generalize Out (VTm w.heap.size z) z w rb tb lb c o pr = Post at *
  have hL := hr.lts
  have hne : w.heap.size ∉ [rb] := by simp; omega
  have hok := hr.tl.ok
  rw [← nxt_inv hx] at hok
  have hm1 := mustS_of hx h0
  have Z0 := Box.new w zs6 33
  go_enter Tryz.func53, Tryz.ntmps53
  go_wp2_with fail
  have T0 := tnO (ob := .cells (zs6).toArray 33) (Turn.refl [rb] w)
  have r0 := hr.onO (ob := .cells (zs6).toArray 33)
  have Rs0 := Z0
  have zsz : w.heap.size < (w.alloc (.cells (zs6).toArray 33)).heap.size := by simp
  have hz0 : (w.alloc (.cells (zs6).toArray 33)).heap.size = w.heap.size + 1 := by simp
  clear Z0
  generalize hW0 : w.alloc _ = w0 at *
  clear hW0
  clear hz0
  clear hr
  have HJ0 := fun W h => is_ok (z := z) (rb := rb) (tb := tb) (lb := lb) (o := o) hx k_hold W h
  rw [h0] at HJ0
  refine Calls.mono (HJ0 _ r0) ?_
  rintro e w1 ⟨rfl, b1⟩
  have t1 := Turn.of_below (S := [rb]) b1
  have r1 := r0.next b1
  have Rs1 := Rs0.turn t1 hne
  have T1 := tn T0 t1
  have s1 := t1.size
  clear Rs0 T0 r0 b1 t1
  go_wp2_with fail
  refine Calls.mono (must_c k_hold _ r1) ?_
  rintro e w2 h2
  obtain ⟨t2, _, rfl, rfl, r2⟩ := Out.of_ok hm1 h2
  have Rs2 := Rs1.turn t2 hne
  have T2 := tn T1 t2
  have s2 := t2.size
  clear Rs1 T1 r1 h2 t2
  go_wp2_with fail
  refine Calls.mono (term_c _ _ _ _ _ _) ?_
  rintro e w3 ⟨rfl, b3⟩
  have t3 := Turn.of_below (S := [rb]) b3
  have r3 := r2.next b3
  have Rs3 := Rs2.turn t3 hne
  have T3 := tn T2 t3
  have s3 := t3.size
  clear Rs2 T2 r2 b3 t3
  obtain ⟨p0, p1, p2, p3, p4, p5, pf0, pf1, pf2, pf3, pf4, pf5⟩ := Rs3.six
  have pl := Rs3.lt
  go_wp2_with fail
  refine bodyPost_ret (v := tmV (tm 33 t0.at_ []) (.slice none 0 0)) (by simp [results, Tryz.results53, go_sem, *]) rfl (hO.out (tm 33 t0.at_ []) (L.tail) _ _ (.slice none 0 0) (hpr.out) ?_ rfl ?_ ?_)
  · exact T3.trans (turn_six _ _ _ _ _ _ _ _) (fun i hi => .inr (by simp at hi; omega))
  · exact sitb_leaf (fit_of _ _ _ _ _ _ hz (by decide) (by decide) (Nat.zero_le _) zero64 zero64 hok.a) rfl
  · exact r3.turn1 (turn_six _ _ _ _ _ _ _ _) hL
set_option maxHeartbeats 4000000 in
set_option maxRecDepth 20000 in
theorem act_to {z rb tb lb : Nat} {c : Int} {L : List Tk} {o : Nat} (hz : z ≤ 9223372036854775807) {E : Ps} (HE : ExC z rb tb lb c o 21 E) {t0 : Tk} (hx : nxt c L = .ok t0) (h0 : isT k_hold t0 = false) (h1 : isT k_to t0 = true) (w : World) (hr : Rea z w rb tb lb c L o) :
    Calls Tryz.prog 53 #[.pointer (some ⟨rb, 0, none⟩)] w (Out (VTm w.heap.size z) z w rb tb lb c o (bnd (E L.tail) fun y => .ok (tm 34 t0.at_ [y.1], y.2))) := by
  obtain ⟨pr, hpr⟩ : ∃ pr, Hid (pr = bnd (E L.tail) fun y => .ok (tm 34 t0.at_ [y.1], y.2)) := ⟨_, rfl⟩
  rw [← hpr.out]
  have hE : Hid (∀ f w', pr = .error f → Turn [rb] w w' → Out (VTm w.heap.size z) z w rb tb lb c o pr (.panicked [fltE f]) w') := fun f w' h ht => Out.mk_err h ht
  have hO : Hid (∀ t L' w' v u, pr = .ok (t, L') → Turn [rb] w w' → v = tmV t u → SitB w.heap.size z w' t u → Rea z w' rb tb lb c L' o → Out (VTm w.heap.size z) z w rb tb lb c o pr (.returned v) w') := fun t L' w' v u h ht hv hs hr' => Out.mk_ok h ht ⟨u, hv, hs⟩ hr'
  generalize Out (VTm w.heap.size z) z w rb tb lb c o pr = Post at *
  have hL := hr.lts
  have hne : w.heap.size ∉ [rb] := by simp; omega
  have hok := hr.tl.ok
  rw [← nxt_inv hx] at hok
  have hm1 := mustS_of hx h1
  have Z0 := Box.new w zs6 33
  go_enter Tryz.func53, Tryz.ntmps53
  go_wp2_with fail
  have T0 := tnO (ob := .cells (zs6).toArray 33) (Turn.refl [rb] w)
  have r0 := hr.onO (ob := .cells (zs6).toArray 33)
  have Rs0 := Z0
  have zsz : w.heap.size < (w.alloc (.cells (zs6).toArray 33)).heap.size := by simp
  have hz0 : (w.alloc (.cells (zs6).toArray 33)).heap.size = w.heap.size + 1 := by simp
  clear Z0
  generalize hW0 : w.alloc _ = w0 at *
  clear hW0
  clear hz0
  clear hr
  have HJ0 := fun W h => is_ok (z := z) (rb := rb) (tb := tb) (lb := lb) (o := o) hx k_hold W h
  rw [h0] at HJ0
  refine Calls.mono (HJ0 _ r0) ?_
  rintro e w1 ⟨rfl, b1⟩
  have t1 := Turn.of_below (S := [rb]) b1
  have r1 := r0.next b1
  have Rs1 := Rs0.turn t1 hne
  have T1 := tn T0 t1
  have s1 := t1.size
  clear Rs0 T0 r0 b1 t1
  go_wp2_with fail
  have HJ1 := fun W h => is_ok (z := z) (rb := rb) (tb := tb) (lb := lb) (o := o) hx k_to W h
  rw [h1] at HJ1
  refine Calls.mono (HJ1 _ r1) ?_
  rintro e w2 ⟨rfl, b2⟩
  have t2 := Turn.of_below (S := [rb]) b2
  have r2 := r1.next b2
  have Rs2 := Rs1.turn t2 hne
  have T2 := tn T1 t2
  have s2 := t2.size
  clear Rs1 T1 r1 b2 t2
  go_wp2_with fail
  refine Calls.mono (must_c k_to _ r2) ?_
  rintro e w3 h3
  obtain ⟨t3, _, rfl, rfl, r3⟩ := Out.of_ok hm1 h3
  have Rs3 := Rs2.turn t3 hne
  have T3 := tn T2 t3
  have s3 := t3.size
  clear Rs2 T2 r2 h3 t3
  go_wp2_with fail
  refine Calls.mono (HE _ _ r3) ?_
  rintro e w4 h4
  rcases hy1 : E L.tail with f | q
  · obtain ⟨rfl, t4⟩ := Out.of_err hy1 h4
    go_wp2_with fail
    exact ⟨rfl, hE.out _ _ (by rw [hpr.out, hy1]; rfl) (tn T3 t4)⟩
  obtain ⟨t4, _, rfl, ⟨u4, rfl, S4⟩, r4⟩ := Out.of_ok hy1 h4
  have Rs4 := Rs3.turn t4 hne
  have T4 := tn T3 t4
  have s4 := t4.size
  clear Rs3 T3 r3 h4 t4
  have hpr1 : Hid (pr = .ok (tm 34 t0.at_ [q.1], q.2)) := by show _ = _; rw [hpr.out, hy1]; rfl
  simp only [tmV]
  obtain ⟨av, cv, hu, -, -⟩ := S4.parts.shape
  subst hu
  generalize hnn : q.1.parts.length = nn at *
  go_wp2_with fail
  have t5 := tnO (ob := .cells ((tmL q.1 (.slice av nn cv))).toArray 33) (Turn.refl [rb] w4)
  have r5 := r4.onO (ob := .cells ((tmL q.1 (.slice av nn cv))).toArray 33)
  have Lt5 := Box.new w4 (tmL q.1 (.slice av nn cv)) 33
  have hnLt : w4.heap.size ∉ [rb] := by simp; omega
  have hxLt : w4.heap.size < (w4.alloc (.cells ((tmL q.1 (.slice av nn cv))).toArray 33)).heap.size := by simp
  have Rs5 := Rs4.turn t5 hne
  have S5 := SitB.turn S4 t5 (by simp; omega)
  have T5 := tn T4 t5
  have s5 := t5.size
  clear Rs4 S4 T4 r4 t5
  generalize hW5 : w4.alloc _ = w5 at *
  clear hW5
  refine Calls.mono (term_c _ _ _ _ _ _) ?_
  rintro e w6 ⟨rfl, b6⟩
  have t6 := Turn.of_below (S := [rb]) b6
  have r6 := r5.next b6
  have Rs6 := Rs5.turn t6 hne
  have Lt6 := Lt5.turn t6 hnLt
  have S6 := SitB.turn S5 t6 (by simp; omega)
  have T6 := tn T5 t6
  have s6 := t6.size
  clear Rs5 Lt5 S5 T5 r5 b6 t6
  obtain ⟨p0, p1, p2, p3, p4, p5, pf0, pf1, pf2, pf3, pf4, pf5⟩ := Rs6.six
  have pl := Rs6.lt
  have HS := hid2 S6
  have HB := hid2 Lt6
  clear S6
  have hg : w4.heap.size ≠ w.heap.size := by omega
  go_wp2_with fail
  refine bodyPost_ret (v := tmV (tm 34 t0.at_ [q.1]) (.slice (some ⟨w4.heap.size, 0, none⟩) 1 1)) (by simp [results, Tryz.results53, go_sem, *]) rfl (hO.out (tm 34 t0.at_ [q.1]) (q.2) _ _ (.slice (some ⟨w4.heap.size, 0, none⟩) 1 1) (hpr1.out) ?_ rfl ?_ ?_)
  · exact T6.trans (turn_six _ _ _ _ _ _ _ _) (fun i hi => .inr (by simp at hi; omega))
  · exact sitb_one (fit_of _ _ _ _ _ _ hz (by decide) (by decide) (Nat.zero_le _) zero64 zero64 hok.a) rfl (by simpa using HB.out.lt) (by omega) (box_six (HB.out.turn (turn_six _ _ _ _ _ _ _ _) (by simp; omega))) (SitB.lower (SitB.turn HS.out (turn_six _ _ _ _ _ _ _ _) (by simp; omega)) (by omega))
  · exact r6.turn1 (turn_six _ _ _ _ _ _ _ _) hL
set_option maxHeartbeats 4000000 in
set_option maxRecDepth 20000 in
theorem act_by {z rb tb lb : Nat} {c : Int} {L : List Tk} {o : Nat} (hz : z ≤ 9223372036854775807) {E : Ps} (HE : ExC z rb tb lb c o 21 E) {t0 : Tk} (hx : nxt c L = .ok t0) (h0 : isT k_hold t0 = false) (h1 : isT k_to t0 = false) (h2 : isT k_by t0 = true) (w : World) (hr : Rea z w rb tb lb c L o) :
    Calls Tryz.prog 53 #[.pointer (some ⟨rb, 0, none⟩)] w (Out (VTm w.heap.size z) z w rb tb lb c o (bnd (E L.tail) fun y => .ok (tm 35 t0.at_ [y.1], y.2))) := by
  obtain ⟨pr, hpr⟩ : ∃ pr, Hid (pr = bnd (E L.tail) fun y => .ok (tm 35 t0.at_ [y.1], y.2)) := ⟨_, rfl⟩
  rw [← hpr.out]
  have hE : Hid (∀ f w', pr = .error f → Turn [rb] w w' → Out (VTm w.heap.size z) z w rb tb lb c o pr (.panicked [fltE f]) w') := fun f w' h ht => Out.mk_err h ht
  have hO : Hid (∀ t L' w' v u, pr = .ok (t, L') → Turn [rb] w w' → v = tmV t u → SitB w.heap.size z w' t u → Rea z w' rb tb lb c L' o → Out (VTm w.heap.size z) z w rb tb lb c o pr (.returned v) w') := fun t L' w' v u h ht hv hs hr' => Out.mk_ok h ht ⟨u, hv, hs⟩ hr'
  generalize Out (VTm w.heap.size z) z w rb tb lb c o pr = Post at *
  have hL := hr.lts
  have hne : w.heap.size ∉ [rb] := by simp; omega
  have hok := hr.tl.ok
  rw [← nxt_inv hx] at hok
  have hm1 := mustS_of hx h2
  have Z0 := Box.new w zs6 33
  go_enter Tryz.func53, Tryz.ntmps53
  go_wp2_with fail
  have T0 := tnO (ob := .cells (zs6).toArray 33) (Turn.refl [rb] w)
  have r0 := hr.onO (ob := .cells (zs6).toArray 33)
  have Rs0 := Z0
  have zsz : w.heap.size < (w.alloc (.cells (zs6).toArray 33)).heap.size := by simp
  have hz0 : (w.alloc (.cells (zs6).toArray 33)).heap.size = w.heap.size + 1 := by simp
  clear Z0
  generalize hW0 : w.alloc _ = w0 at *
  clear hW0
  clear hz0
  clear hr
  have HJ0 := fun W h => is_ok (z := z) (rb := rb) (tb := tb) (lb := lb) (o := o) hx k_hold W h
  rw [h0] at HJ0
  refine Calls.mono (HJ0 _ r0) ?_
  rintro e w1 ⟨rfl, b1⟩
  have t1 := Turn.of_below (S := [rb]) b1
  have r1 := r0.next b1
  have Rs1 := Rs0.turn t1 hne
  have T1 := tn T0 t1
  have s1 := t1.size
  clear Rs0 T0 r0 b1 t1
  go_wp2_with fail
  have HJ1 := fun W h => is_ok (z := z) (rb := rb) (tb := tb) (lb := lb) (o := o) hx k_to W h
  rw [h1] at HJ1
  refine Calls.mono (HJ1 _ r1) ?_
  rintro e w2 ⟨rfl, b2⟩
  have t2 := Turn.of_below (S := [rb]) b2
  have r2 := r1.next b2
  have Rs2 := Rs1.turn t2 hne
  have T2 := tn T1 t2
  have s2 := t2.size
  clear Rs1 T1 r1 b2 t2
  go_wp2_with fail
  have HJ2 := fun W h => is_ok (z := z) (rb := rb) (tb := tb) (lb := lb) (o := o) hx k_by W h
  rw [h2] at HJ2
  refine Calls.mono (HJ2 _ r2) ?_
  rintro e w3 ⟨rfl, b3⟩
  have t3 := Turn.of_below (S := [rb]) b3
  have r3 := r2.next b3
  have Rs3 := Rs2.turn t3 hne
  have T3 := tn T2 t3
  have s3 := t3.size
  clear Rs2 T2 r2 b3 t3
  go_wp2_with fail
  refine Calls.mono (must_c k_by _ r3) ?_
  rintro e w4 h4
  obtain ⟨t4, _, rfl, rfl, r4⟩ := Out.of_ok hm1 h4
  have Rs4 := Rs3.turn t4 hne
  have T4 := tn T3 t4
  have s4 := t4.size
  clear Rs3 T3 r3 h4 t4
  go_wp2_with fail
  refine Calls.mono (HE _ _ r4) ?_
  rintro e w5 h5
  rcases hy1 : E L.tail with f | q
  · obtain ⟨rfl, t5⟩ := Out.of_err hy1 h5
    go_wp2_with fail
    exact ⟨rfl, hE.out _ _ (by rw [hpr.out, hy1]; rfl) (tn T4 t5)⟩
  obtain ⟨t5, _, rfl, ⟨u5, rfl, S5⟩, r5⟩ := Out.of_ok hy1 h5
  have Rs5 := Rs4.turn t5 hne
  have T5 := tn T4 t5
  have s5 := t5.size
  clear Rs4 T4 r4 h5 t5
  have hpr1 : Hid (pr = .ok (tm 35 t0.at_ [q.1], q.2)) := by show _ = _; rw [hpr.out, hy1]; rfl
  simp only [tmV]
  obtain ⟨av, cv, hu, -, -⟩ := S5.parts.shape
  subst hu
  generalize hnn : q.1.parts.length = nn at *
  go_wp2_with fail
  have t6 := tnO (ob := .cells ((tmL q.1 (.slice av nn cv))).toArray 33) (Turn.refl [rb] w5)
  have r6 := r5.onO (ob := .cells ((tmL q.1 (.slice av nn cv))).toArray 33)
  have Lt6 := Box.new w5 (tmL q.1 (.slice av nn cv)) 33
  have hnLt : w5.heap.size ∉ [rb] := by simp; omega
  have hxLt : w5.heap.size < (w5.alloc (.cells ((tmL q.1 (.slice av nn cv))).toArray 33)).heap.size := by simp
  have Rs6 := Rs5.turn t6 hne
  have S6 := SitB.turn S5 t6 (by simp; omega)
  have T6 := tn T5 t6
  have s6 := t6.size
  clear Rs5 S5 T5 r5 t6
  generalize hW6 : w5.alloc _ = w6 at *
  clear hW6
  refine Calls.mono (term_c _ _ _ _ _ _) ?_
  rintro e w7 ⟨rfl, b7⟩
  have t7 := Turn.of_below (S := [rb]) b7
  have r7 := r6.next b7
  have Rs7 := Rs6.turn t7 hne
  have Lt7 := Lt6.turn t7 hnLt
  have S7 := SitB.turn S6 t7 (by simp; omega)
  have T7 := tn T6 t7
  have s7 := t7.size
  clear Rs6 Lt6 S6 T6 r6 b7 t7
  obtain ⟨p0, p1, p2, p3, p4, p5, pf0, pf1, pf2, pf3, pf4, pf5⟩ := Rs7.six
  have pl := Rs7.lt
  have HS := hid2 S7
  have HB := hid2 Lt7
  clear S7
  have hg : w5.heap.size ≠ w.heap.size := by omega
  go_wp2_with fail
  refine bodyPost_ret (v := tmV (tm 35 t0.at_ [q.1]) (.slice (some ⟨w5.heap.size, 0, none⟩) 1 1)) (by simp [results, Tryz.results53, go_sem, *]) rfl (hO.out (tm 35 t0.at_ [q.1]) (q.2) _ _ (.slice (some ⟨w5.heap.size, 0, none⟩) 1 1) (hpr1.out) ?_ rfl ?_ ?_)
  · exact T7.trans (turn_six _ _ _ _ _ _ _ _) (fun i hi => .inr (by simp at hi; omega))
  · exact sitb_one (fit_of _ _ _ _ _ _ hz (by decide) (by decide) (Nat.zero_le _) zero64 zero64 hok.a) rfl (by simpa using HB.out.lt) (by omega) (box_six (HB.out.turn (turn_six _ _ _ _ _ _ _ _) (by simp; omega))) (SitB.lower (SitB.turn HS.out (turn_six _ _ _ _ _ _ _ _) (by simp; omega)) (by omega))
  · exact r7.turn1 (turn_six _ _ _ _ _ _ _ _) hL
set_option maxHeartbeats 4000000 in
set_option maxRecDepth 20000 in
theorem act_ladder {z rb tb lb : Nat} {c : Int} {L : List Tk} {o : Nat} (hz : z ≤ 9223372036854775807) {E : Ps} (HE : ExC z rb tb lb c o 21 E) (hDE : Dec E) {A : Option Ps} {N : Nat} (HX : InA z rb tb lb c o N A) (hN : L.length ≤ N) (hN2 : N ≤ 1000000) {t0 : Tk} (hx : nxt c L = .ok t0) (h0 : isT k_hold t0 = false) (h1 : isT k_to t0 = false) (h2 : isT k_by t0 = false) (h3 : isT k_ladder t0 = true) (w : World) (hr : Rea z w rb tb lb c L o) :
    Calls Tryz.prog 53 #[.pointer (some ⟨rb, 0, none⟩)] w (Out (VTm w.heap.size z) z w rb tb lb c o (bnd (E L.tail) fun x => beginP c k_lb A x.2 fun B L1 => bnd (rungs c B L1.length [x.1] L1) fun z => .ok (tm 36 t0.at_ z.1, z.2))) := by
  obtain ⟨pr, hpr⟩ : ∃ pr, Hid (pr = bnd (E L.tail) fun x => beginP c k_lb A x.2 fun B L1 => bnd (rungs c B L1.length [x.1] L1) fun z => .ok (tm 36 t0.at_ z.1, z.2)) := ⟨_, rfl⟩
  rw [← hpr.out]
  have hE : Hid (∀ f w', pr = .error f → Turn [rb] w w' → Out (VTm w.heap.size z) z w rb tb lb c o pr (.panicked [fltE f]) w') := fun f w' h ht => Out.mk_err h ht
  have hO : Hid (∀ t L' w' v u, pr = .ok (t, L') → Turn [rb] w w' → v = tmV t u → SitB w.heap.size z w' t u → Rea z w' rb tb lb c L' o → Out (VTm w.heap.size z) z w rb tb lb c o pr (.returned v) w') := fun t L' w' v u h ht hv hs hr' => Out.mk_ok h ht ⟨u, hv, hs⟩ hr'
  generalize Out (VTm w.heap.size z) z w rb tb lb c o pr = Post at *
  have hL := hr.lts
  have hne : w.heap.size ∉ [rb] := by simp; omega
  have Z0 := Box.new w zs6 33
  go_enter Tryz.func53, Tryz.ntmps53
  go_wp2_with fail
  have T0 := tnO (ob := .cells (zs6).toArray 33) (Turn.refl [rb] w)
  have r0 := hr.onO (ob := .cells (zs6).toArray 33)
  have Rs0 := Z0
  have zsz : w.heap.size < (w.alloc (.cells (zs6).toArray 33)).heap.size := by simp
  have hz0 : (w.alloc (.cells (zs6).toArray 33)).heap.size = w.heap.size + 1 := by simp
  clear Z0
  generalize hW0 : w.alloc _ = w0 at *
  clear hW0
  clear hz0
  clear hr
  have HJ0 := fun W h => is_ok (z := z) (rb := rb) (tb := tb) (lb := lb) (o := o) hx k_hold W h
  rw [h0] at HJ0
  refine Calls.mono (HJ0 _ r0) ?_
  rintro e w1 ⟨rfl, b1⟩
  have t1 := Turn.of_below (S := [rb]) b1
  have r1 := r0.next b1
  have Rs1 := Rs0.turn t1 hne
  have T1 := tn T0 t1
  have s1 := t1.size
  clear Rs0 T0 r0 b1 t1
  go_wp2_with fail
  have HJ1 := fun W h => is_ok (z := z) (rb := rb) (tb := tb) (lb := lb) (o := o) hx k_to W h
  rw [h1] at HJ1
  refine Calls.mono (HJ1 _ r1) ?_
  rintro e w2 ⟨rfl, b2⟩
  have t2 := Turn.of_below (S := [rb]) b2
  have r2 := r1.next b2
  have Rs2 := Rs1.turn t2 hne
  have T2 := tn T1 t2
  have s2 := t2.size
  clear Rs1 T1 r1 b2 t2
  go_wp2_with fail
  have HJ2 := fun W h => is_ok (z := z) (rb := rb) (tb := tb) (lb := lb) (o := o) hx k_by W h
  rw [h2] at HJ2
  refine Calls.mono (HJ2 _ r2) ?_
  rintro e w3 ⟨rfl, b3⟩
  have t3 := Turn.of_below (S := [rb]) b3
  have r3 := r2.next b3
  have Rs3 := Rs2.turn t3 hne
  have T3 := tn T2 t3
  have s3 := t3.size
  clear Rs2 T2 r2 b3 t3
  go_wp2_with fail
  have HJ3 := fun W h => is_ok (z := z) (rb := rb) (tb := tb) (lb := lb) (o := o) hx k_ladder W h
  rw [h3] at HJ3
  refine Calls.mono (HJ3 _ r3) ?_
  rintro e w4 ⟨rfl, b4⟩
  have t4 := Turn.of_below (S := [rb]) b4
  have r4 := r3.next b4
  have Rs4 := Rs3.turn t4 hne
  have T4 := tn T3 t4
  have s4 := t4.size
  clear Rs3 T3 r3 b4 t4
  go_wp2_with fail
  have HM := hid2 (ladder_c hz HE hDE HX hN hN2 hx h3 _ r4)
  rw [← hpr.out] at HM
  refine Calls.mono HM.out ?_
  intro e w5 h5
  rcases out_up T4 h5 with ⟨f, rfl, hp, ht⟩ | ⟨t, u, L', rfl, hp2, t5, S5, r5⟩
  · go_wp2_with fail
    exact ⟨rfl, hE.out _ _ hp ht⟩
  obtain ⟨p0, p1, p2, p3, p4, p5, q0, q1, q2, q3, q4, q5⟩ := (Rs4.turn t5 hne).six
  have pl := (Rs4.turn t5 hne).lt
  have HT := hid2 (tn T4 t5)
  have HS := hid2 S5
  obtain ⟨av, cv, rfl, -, -⟩ := S5.parts.shape
  generalize hnn : t.parts.length = nn at *
  clear h5 t5 S5 HM
  simp only [tmV]
  go_wp2_with fail
  refine bodyPost_ret (v := tmV t (.slice av nn cv)) (by simp [results, Tryz.results53, go_sem, *]) rfl (hO.out t L' _ _ (.slice av nn cv) hp2 ?_ rfl ?_ ?_)
  · exact HT.out.trans (turn_six _ _ _ _ _ _ _ _) (fun i hi => .inr (by simp at hi; omega))
  · exact SitB.lower (SitB.turn HS.out (turn_six _ _ _ _ _ _ _ _) (by simp; omega)) (by omega)
  · exact r5.turn1 (turn_six _ _ _ _ _ _ _ _) hL
set_option maxHeartbeats 1000000 in
theorem act_no {z rb tb lb : Nat} {c : Int} {L : List Tk} {o : Nat} {f : Flt} (hx : nxt c L = .error f) (w : World) (hr : Rea z w rb tb lb c L o) :
    Calls Tryz.prog 53 #[.pointer (some ⟨rb, 0, none⟩)] w fun e w' => e = .panicked [fltE f] ∧ Below w.heap.size w w' := by
  have HN := hid2 (is_err hx k_hold _ (hr.onO (ob := .cells (zs6).toArray 33)))
  clear hr hx
  go_enter Tryz.func53, Tryz.ntmps53
  go_wp2_with fail
  refine Calls.mono HN.out ?_
  rintro e w1 ⟨rfl, b1⟩
  go_wp2_with fail
  exact ⟨rfl, rfl, below_on ((Below.refl _ _).alloc (Nat.le_refl _) _) b1 (by simp)⟩
set_option maxHeartbeats 1000000 in
theorem act_else {z rb tb lb : Nat} {c : Int} {L : List Tk} {o : Nat} {t0 : Tk} (hx : nxt c L = .ok t0) (h0 : isT k_hold t0 = false) (h1 : isT k_to t0 = false) (h2 : isT k_by t0 = false) (h3 : isT k_ladder t0 = false) (w : World) (hr : Rea z w rb tb lb c L o) :
    Calls Tryz.prog 53 #[.pointer (some ⟨rb, 0, none⟩)] w fun e w' => e = .panicked [fltE (t0.at_, 16)] ∧ Below w.heap.size w w' := by
  have b0 := (Below.refl w.heap.size w).alloc (Nat.le_refl _) (.cells (zs6).toArray 33)
  have H0 := hid2 (fun W (k : Below w.heap.size w W) => is_ok hx k_hold W (hr.next k))
  have H1 := hid2 (fun W (k : Below w.heap.size w W) => is_ok hx k_to W (hr.next k))
  have H2 := hid2 (fun W (k : Below w.heap.size w W) => is_ok hx k_by W (hr.next k))
  have H3 := hid2 (fun W (k : Below w.heap.size w W) => is_ok hx k_ladder W (hr.next k))
  have HU := hid2 (fun W (k : Below w.heap.size w W) => unfit_ok hx W (hr.next k))
  rw [h0] at H0
  rw [h1] at H1
  rw [h2] at H2
  rw [h3] at H3
  clear hr hx h0 h1 h2 h3
  go_enter Tryz.func53, Tryz.ntmps53
  go_wp2_with fail
  refine Calls.mono (H0.out _ b0) ?_
  rintro e w1 ⟨rfl, c1⟩
  have b1 := below_on b0 c1 b0.size
  go_wp2_with fail
  refine Calls.mono (H1.out _ b1) ?_
  rintro e w2 ⟨rfl, c2⟩
  have b2 := below_on b1 c2 b1.size
  go_wp2_with fail
  refine Calls.mono (H2.out _ b2) ?_
  rintro e w3 ⟨rfl, c3⟩
  have b3 := below_on b2 c3 b2.size
  go_wp2_with fail
  refine Calls.mono (H3.out _ b3) ?_
  rintro e w4 ⟨rfl, c4⟩
  have b4 := below_on b3 c4 b3.size
  go_wp2_with fail
  refine Calls.mono (HU.out _ b4) ?_
  rintro e w5 ⟨rfl, c5⟩
  go_wp2_with fail
  exact ⟨rfl, rfl, below_on b4 c5 b4.size⟩
theorem act_c {z rb tb lb : Nat} {c : Int} {o N : Nat} (hz : z ≤ 9223372036854775807) {E : Ps} (HE : ExC z rb tb lb c o 21 E) (hDE : Dec E) {A : Option Ps} (HX : InA z rb tb lb c o N A) (hN2 : N ≤ 1000000) : AcC z rb tb lb c o N 53 (actP c E A) := by
  intro L hN w hr
  unfold actP
  rcases hx : nxt c L with f | t0
  · exact (act_no hx w hr).mono fun e w' ⟨h1, h2⟩ => h1 ▸ Out.mk_err rfl (Turn.of_below h2)
  · rw [bnd_ok]
    cases h0 : isT k_hold t0 with
    | true => rw [if_pos rfl]; exact act_hold hz hx h0 w hr
    | false =>
      rw [if_neg (by simp)]
      cases h1 : isT k_to t0 with
      | true => rw [if_pos rfl]; exact act_to hz HE hx h0 h1 w hr
      | false =>
        rw [if_neg (by simp)]
        cases h2 : isT k_by t0 with
        | true => rw [if_pos rfl]; exact act_by hz HE hx h0 h1 h2 w hr
        | false =>
          rw [if_neg (by simp)]
          cases h3 : isT k_ladder t0 with
          | true => rw [if_pos rfl]; exact act_ladder hz HE hDE HX hN hN2 hx h0 h1 h2 h3 w hr
          | false =>
            rw [if_neg (by simp)]
            exact (act_else hx h0 h1 h2 h3 w hr).mono fun e w' ⟨g1, g2⟩ => g1 ▸ Out.mk_err rfl (Turn.of_below g2)
theorem actD_c {z rb tb lb : Nat} {c : Int} {N : Nat} (hz : z ≤ 9223372036854775807) (hN : N ≤ 1000000) : ∀ d o, o + d = 64 → AcC z rb tb lb c o N 53 (actD c d)
  | 0, o, ho => act_c hz (expr_c hz 0 o ho) (dec_expr c 0) ⟨fun _ => (by omega), (fun _ h => by cases h)⟩ hN
  | d + 1, o, ho => act_c hz (expr_c hz (d + 1) o ho) (dec_expr c (d + 1)) ⟨(fun h => by cases h), fun E h => by cases h; exact ⟨by omega, actD_c hz hN d (o + 1) (by omega), dec_actD c d⟩⟩ hN
end Go.Proofs.YtecdfnpbcabdnaaGreatDoor

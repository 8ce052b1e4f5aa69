/- Package parse: bound, ladder, action. -/
import Derived.Test.YtecdfnpbcabdnaaGreatDoorPxT
namespace Go.Proofs.YtecdfnpbcabdnaaGreatDoor
open Go.RowKit Go.Lib

set_option maxHeartbeats 4000000 in
set_option maxRecDepth 20000 in
theorem bound_neg {z rb tb lb : Nat} {c : Int} {L : List Tk} {o : Nat} (hz : z ≤ 9223372036854775807) {t0 : Tk} (hx : nxt c L = .ok t0) (hm : isT k_sub t0 = true) (w : World) (hr : Rea z w rb tb lb c L o) :
    Calls Tryz.prog 103 #[.pointer (some ⟨rb, 0, none⟩)] w (Out (VTm w.heap.size z) z w rb tb lb c o (bnd (numberP c L.tail) fun y => .ok (tm 13 t0.at_ [y.1], y.2))) := by
  obtain ⟨pr, hpr⟩ : ∃ pr, Hid (pr = bnd (numberP c L.tail) fun y => .ok (tm 13 t0.at_ [y.1], y.2)) := ⟨_, rfl⟩
  rw [← hpr.out]
  have hE : Hid (∀ f w', pr = .error f → Turn [rb] w w' → Out (VTm w.heap.size z) z w rb tb lb c o pr (.panicked [fltE f]) w') := fun f w' h ht => Out.mk_err h ht
  have hO : Hid (∀ t L' w' v u, pr = .ok (t, L') → Turn [rb] w w' → v = tmV t u → SitB w.heap.size z w' t u → Rea z w' rb tb lb c L' o → Out (VTm w.heap.size z) z w rb tb lb c o pr (.returned v) w') := fun t L' w' v u h ht hv hs hr' => Out.mk_ok h ht ⟨u, hv, hs⟩ hr'
  generalize Out (VTm w.heap.size z) z w rb tb lb c o pr = Post at *
  have hL := hr.lts
  have hne : w.heap.size ∉ [rb] := by simp; omega
  have hok := hr.tl.ok
  rw [← nxt_inv hx] at hok
  have hm1 := mustS_of hx hm
  have Z0 := Box.new w zs6 33
  go_enter Tryz.func103, Tryz.ntmps103
  go_wp2_with fail
  have T0 := tnO (ob := .cells (zs6).toArray 33) (Turn.refl [rb] w)
  have r0 := hr.onO (ob := .cells (zs6).toArray 33)
  have Rs0 := Z0
  have zsz : w.heap.size < (w.alloc (.cells (zs6).toArray 33)).heap.size := by simp
  have hz0 : (w.alloc (.cells (zs6).toArray 33)).heap.size = w.heap.size + 1 := by simp
  clear Z0
  generalize hW0 : w.alloc _ = w0 at *
  clear hW0
  clear hz0
  clear hr
  have HJ := fun W h => is_ok (z := z) (rb := rb) (tb := tb) (lb := lb) (o := o) hx k_sub W h
  rw [hm] at HJ
  refine Calls.mono (HJ _ r0) ?_
  rintro e w1 ⟨rfl, b1⟩
  have t1 := Turn.of_below (S := [rb]) b1
  have r1 := r0.next b1
  have Rs1 := Rs0.turn t1 hne
  have T1 := tn T0 t1
  have s1 := t1.size
  clear Rs0 T0 r0 b1 t1
  go_wp2_with fail
  refine Calls.mono (must_c k_sub _ r1) ?_
  rintro e w2 h2
  obtain ⟨t2, _, rfl, rfl, r2⟩ := Out.of_ok hm1 h2
  have Rs2 := Rs1.turn t2 hne
  have T2 := tn T1 t2
  have s2 := t2.size
  clear Rs1 T1 r1 h2 t2
  go_wp2_with fail
  refine Calls.mono (numb_c hz _ r2) ?_
  rintro e w3 h3
  rcases hy1 : numberP c L.tail with f | q
  · obtain ⟨rfl, t3⟩ := Out.of_err hy1 h3
    go_wp2_with fail
    exact ⟨rfl, hE.out _ _ (by rw [hpr.out, hy1]; rfl) (tn T2 t3)⟩
  obtain ⟨t3, _, rfl, ⟨u3, rfl, S3⟩, r3⟩ := Out.of_ok hy1 h3
  have Rs3 := Rs2.turn t3 hne
  have T3 := tn T2 t3
  have s3 := t3.size
  clear Rs2 T2 r2 h3 t3
  have hpr1 : Hid (pr = .ok (tm 13 t0.at_ [q.1], q.2)) := by show _ = _; rw [hpr.out, hy1]; rfl
  simp only [tmV]
  obtain ⟨av, cv, hu, -, -⟩ := S3.parts.shape
  subst hu
  generalize hnn : q.1.parts.length = nn at *
  go_wp2_with fail
  have t4 := tnO (ob := .cells ((tmL q.1 (.slice av nn cv))).toArray 33) (Turn.refl [rb] w3)
  have r4 := r3.onO (ob := .cells ((tmL q.1 (.slice av nn cv))).toArray 33)
  have Lt4 := Box.new w3 (tmL q.1 (.slice av nn cv)) 33
  have hnLt : w3.heap.size ∉ [rb] := by simp; omega
  have hxLt : w3.heap.size < (w3.alloc (.cells ((tmL q.1 (.slice av nn cv))).toArray 33)).heap.size := by simp
  have Rs4 := Rs3.turn t4 hne
  have S4 := SitB.turn S3 t4 (by simp; omega)
  have T4 := tn T3 t4
  have s4 := t4.size
  clear Rs3 S3 T3 r3 t4
  generalize hW4 : w3.alloc _ = w4 at *
  clear hW4
  refine Calls.mono (term_c _ _ _ _ _ _) ?_
  rintro e w5 ⟨rfl, b5⟩
  have t5 := Turn.of_below (S := [rb]) b5
  have r5 := r4.next b5
  have Rs5 := Rs4.turn t5 hne
  have Lt5 := Lt4.turn t5 hnLt
  have S5 := SitB.turn S4 t5 (by simp; omega)
  have T5 := tn T4 t5
  have s5 := t5.size
  clear Rs4 Lt4 S4 T4 r4 b5 t5
  obtain ⟨p0, p1, p2, p3, p4, p5, pf0, pf1, pf2, pf3, pf4, pf5⟩ := Rs5.six
  have pl := Rs5.lt
  have HS := hid2 S5
  have HB := hid2 Lt5
  clear S5
  have hg : w3.heap.size ≠ w.heap.size := by omega
  go_wp2_with fail
  refine bodyPost_ret (v := tmV (tm 13 t0.at_ [q.1]) (.slice (some ⟨w3.heap.size, 0, none⟩) 1 1)) (by simp [results, Tryz.results103, go_sem, *]) rfl (hO.out (tm 13 t0.at_ [q.1]) (q.2) _ _ (.slice (some ⟨w3.heap.size, 0, none⟩) 1 1) (hpr1.out) ?_ rfl ?_ ?_)
  · exact T5.trans (turn_six _ _ _ _ _ _ _ _) (fun i hi => .inr (by simp at hi; omega))
  · exact sitb_one (fit_of _ _ _ _ _ _ hz (by decide) (by decide) (Nat.zero_le _) zero64 zero64 hok.a) rfl (by simpa using HB.out.lt) (by omega) (box_six (HB.out.turn (turn_six _ _ _ _ _ _ _ _) (by simp; omega))) (SitB.lower (SitB.turn HS.out (turn_six _ _ _ _ _ _ _ _) (by simp; omega)) (by omega))
  · exact r5.turn1 (turn_six _ _ _ _ _ _ _ _) hL
set_option maxHeartbeats 4000000 in
set_option maxRecDepth 20000 in
theorem bound_num {z rb tb lb : Nat} {c : Int} {L : List Tk} {o : Nat} (hz : z ≤ 9223372036854775807) {t0 : Tk} (hx : nxt c L = .ok t0) (hm : isT k_sub t0 = false) (w : World) (hr : Rea z w rb tb lb c L o) :
    Calls Tryz.prog 103 #[.pointer (some ⟨rb, 0, none⟩)] w (Out (VTm w.heap.size z) z w rb tb lb c o (numberP c L)) := by
  obtain ⟨pr, hpr⟩ : ∃ pr, Hid (pr = numberP c L) := ⟨_, rfl⟩
  rw [← hpr.out]
  have hE : Hid (∀ f w', pr = .error f → Turn [rb] w w' → Out (VTm w.heap.size z) z w rb tb lb c o pr (.panicked [fltE f]) w') := fun f w' h ht => Out.mk_err h ht
  have hO : Hid (∀ t L' w' v u, pr = .ok (t, L') → Turn [rb] w w' → v = tmV t u → SitB w.heap.size z w' t u → Rea z w' rb tb lb c L' o → Out (VTm w.heap.size z) z w rb tb lb c o pr (.returned v) w') := fun t L' w' v u h ht hv hs hr' => Out.mk_ok h ht ⟨u, hv, hs⟩ hr'
  generalize Out (VTm w.heap.size z) z w rb tb lb c o pr = Post at *
  have hL := hr.lts
  have hne : w.heap.size ∉ [rb] := by simp; omega
  have Z0 := Box.new w zs6 33
  go_enter Tryz.func103, Tryz.ntmps103
  go_wp2_with fail
  have T0 := tnO (ob := .cells (zs6).toArray 33) (Turn.refl [rb] w)
  have r0 := hr.onO (ob := .cells (zs6).toArray 33)
  have Rs0 := Z0
  have zsz : w.heap.size < (w.alloc (.cells (zs6).toArray 33)).heap.size := by simp
  have hz0 : (w.alloc (.cells (zs6).toArray 33)).heap.size = w.heap.size + 1 := by simp
  clear Z0
  generalize hW0 : w.alloc _ = w0 at *
  clear hW0
  clear hz0
  clear hr
  have HJ := fun W h => is_ok (z := z) (rb := rb) (tb := tb) (lb := lb) (o := o) hx k_sub W h
  rw [hm] at HJ
  refine Calls.mono (HJ _ r0) ?_
  rintro e w1 ⟨rfl, b1⟩
  have t1 := Turn.of_below (S := [rb]) b1
  have r1 := r0.next b1
  have Rs1 := Rs0.turn t1 hne
  have T1 := tn T0 t1
  have s1 := t1.size
  clear Rs0 T0 r0 b1 t1
  go_wp2_with fail
  have HM := hid2 (numb_c hz _ r1)
  rw [← hpr.out] at HM
  refine Calls.mono HM.out ?_
  intro e w2 h2
  rcases out_up T1 h2 with ⟨f, rfl, hp, ht⟩ | ⟨t, u, L', rfl, hp2, t2, S2, r2⟩
  · go_wp2_with fail
    exact ⟨rfl, hE.out _ _ hp ht⟩
  obtain ⟨p0, p1, p2, p3, p4, p5, q0, q1, q2, q3, q4, q5⟩ := (Rs1.turn t2 hne).six
  have pl := (Rs1.turn t2 hne).lt
  have HT := hid2 (tn T1 t2)
  have HS := hid2 S2
  obtain ⟨av, cv, rfl, -, -⟩ := S2.parts.shape
  generalize hnn : t.parts.length = nn at *
  clear h2 t2 S2 HM
  simp only [tmV]
  go_wp2_with fail
  refine bodyPost_ret (v := tmV t (.slice av nn cv)) (by simp [results, Tryz.results103, go_sem, *]) rfl (hO.out t L' _ _ (.slice av nn cv) hp2 ?_ rfl ?_ ?_)
  · exact HT.out.trans (turn_six _ _ _ _ _ _ _ _) (fun i hi => .inr (by simp at hi; omega))
  · exact SitB.lower (SitB.turn HS.out (turn_six _ _ _ _ _ _ _ _) (by simp; omega)) (by omega)
  · exact r2.turn1 (turn_six _ _ _ _ _ _ _ _) hL
set_option maxHeartbeats 1000000 in
theorem bound_no {z rb tb lb : Nat} {c : Int} {L : List Tk} {o : Nat} {f : Flt} (hx : nxt c L = .error f) (w : World) (hr : Rea z w rb tb lb c L o) :
    Calls Tryz.prog 103 #[.pointer (some ⟨rb, 0, none⟩)] w fun e w' => e = .panicked [fltE f] ∧ Below w.heap.size w w' := by
  have HN := hid2 (is_err hx k_sub _ (hr.onO (ob := .cells (zs6).toArray 33)))
  clear hr hx
  go_enter Tryz.func103, Tryz.ntmps103
  go_wp2_with fail
  refine Calls.mono HN.out ?_
  rintro e w1 ⟨rfl, b1⟩
  go_wp2_with fail
  exact ⟨rfl, rfl, below_on ((Below.refl _ _).alloc (Nat.le_refl _) _) b1 (by simp)⟩
theorem bound_c {z rb tb lb : Nat} {c : Int} {o : Nat} (hz : z ≤ 9223372036854775807) : ExC z rb tb lb c o 103 (boundP c) := by
  intro L w hr
  unfold boundP
  rcases hx : nxt c L with f | t0
  · exact (bound_no hx w hr).mono fun e w' ⟨h1, h2⟩ => h1 ▸ Out.mk_err rfl (Turn.of_below h2)
  · rw [bnd_ok]
    cases h1 : isT k_sub t0 with
    | true => rw [if_pos rfl]; exact bound_neg hz hx h1 w hr
    | false => rw [if_neg (by simp)]; exact bound_num hz hx h1 w hr
set_option maxHeartbeats 4000000 in
set_option maxRecDepth 20000 in
theorem ladder_c {z rb tb lb : Nat} {c : Int} {L : List Tk} {o : Nat} (hz : z ≤ 9223372036854775807) {E : Ps} (HE : ExC z rb tb lb c o 21 E) (hDE : Dec E) {A : Option Ps} {N : Nat} (HX : InA z rb tb lb c o N A) (hN : L.length ≤ N) (hN2 : N ≤ 1000000) {t0 : Tk} (hx : nxt c L = .ok t0) (hm : isT k_ladder t0 = true) (w : World) (hr : Rea z w rb tb lb c L o) :
    Calls Tryz.prog 77 #[.pointer (some ⟨rb, 0, none⟩)] w (Out (VTm w.heap.size z) z w rb tb lb c o (bnd (E L.tail) fun x => beginP c k_lb A x.2 fun B L1 => bnd (rungs c B L1.length [x.1] L1) fun z => .ok (tm 36 t0.at_ z.1, z.2))) := by
  obtain ⟨pr, hpr⟩ : ∃ pr, Hid (pr = bnd (E L.tail) fun x => beginP c k_lb A x.2 fun B L1 => bnd (rungs c B L1.length [x.1] L1) fun z => .ok (tm 36 t0.at_ z.1, z.2)) := ⟨_, rfl⟩
  rw [← hpr.out]
  have hE : Hid (∀ f w', pr = .error f → Turn [rb] w w' → Out (VTm w.heap.size z) z w rb tb lb c o pr (.panicked [fltE f]) w') := fun f w' h ht => Out.mk_err h ht
  have hO : Hid (∀ t L' w' v u, pr = .ok (t, L') → Turn [rb] w w' → v = tmV t u → SitB w.heap.size z w' t u → Rea z w' rb tb lb c L' o → Out (VTm w.heap.size z) z w rb tb lb c o pr (.returned v) w') := fun t L' w' v u h ht hv hs hr' => Out.mk_ok h ht ⟨u, hv, hs⟩ hr'
  generalize Out (VTm w.heap.size z) z w rb tb lb c o pr = Post at *
  have hL := hr.lts
  have hne : w.heap.size ∉ [rb] := by simp; omega
  have hok := hr.tl.ok
  rw [← nxt_inv hx] at hok
  have hm1 := mustS_of hx hm
  have Z0 := Box.new w zs6 33
  go_enter Tryz.func77, Tryz.ntmps77
  go_wp2_with fail
  have T0 := tnO (ob := .cells (zs6).toArray 33) (Turn.refl [rb] w)
  have r0 := hr.onO (ob := .cells (zs6).toArray 33)
  have Rs0 := Z0
  have zsz : w.heap.size < (w.alloc (.cells (zs6).toArray 33)).heap.size := by simp
  have hz0 : (w.alloc (.cells (zs6).toArray 33)).heap.size = w.heap.size + 1 := by simp
  clear Z0
  generalize hW0 : w.alloc _ = w0 at *
  clear hW0
  clear hz0
  clear hr
  refine Calls.mono (must_c k_ladder _ r0) ?_
  rintro e w1 h1
  obtain ⟨t1, _, rfl, rfl, r1⟩ := Out.of_ok hm1 h1
  have Rs1 := Rs0.turn t1 hne
  have T1 := tn T0 t1
  have s1 := t1.size
  clear Rs0 T0 r0  h1 t1
  go_wp2_with fail
  refine Calls.mono (HE _ _ r1) ?_
  rintro e w2 h2
  rcases hy1 : E L.tail with f | q
  · obtain ⟨rfl, t2⟩ := Out.of_err hy1 h2
    go_wp2_with fail
    exact ⟨rfl, hE.out _ _ (by rw [hpr.out, hy1]; rfl) (tn T1 t2)⟩
  obtain ⟨t2, _, rfl, ⟨u2, rfl, S2⟩, r2⟩ := Out.of_ok hy1 h2
  have Rs2 := Rs1.turn t2 hne
  have T2 := tn T1 t2
  have s2 := t2.size
  clear Rs1 T1 r1  h2 t2
  have hpr1 : Hid (pr = beginP c k_lb A q.2 fun B L1 => bnd (rungs c B L1.length [q.1] L1) fun z => .ok (tm 36 t0.at_ z.1, z.2)) := by show _ = _; rw [hpr.out, hy1]; rfl
  simp only [tmV]
  obtain ⟨av, cv, hu, -, -⟩ := S2.parts.shape
  subst hu
  generalize hnn : q.1.parts.length = nn at *
  obtain ⟨C0, hC0⟩ : ∃ C, Hid (C = w2.heap.size) := ⟨_, rfl⟩
  have Sq2 : SitQ (fun b => w.heap.size + 1 ≤ b ∧ b < C0) z w2 q.1 (.slice av nn cv) := SitQ.weak S2 (fun b hb hq => ⟨by have : _ ≤ b := hq; omega, by rw [hC0.out]; exact hb⟩)
  have hC1 : C0 ≤ w2.heap.size := by rw [hC0.out]; exact Nat.le_refl _
  clear S2
  go_wp2_with fail
  have t3 := tnO (ob := .cells ((tmL q.1 (.slice av nn cv))).toArray 33) (Turn.refl [rb] w2)
  have r3 := r2.onO (ob := .cells ((tmL q.1 (.slice av nn cv))).toArray 33)
  have Lx3 := Box.new w2 (tmL q.1 (.slice av nn cv)) 33
  have hnLx : w2.heap.size ∉ [rb] := by simp; omega
  have hxLx : w2.heap.size < (w2.alloc (.cells ((tmL q.1 (.slice av nn cv))).toArray 33)).heap.size := by simp
  have Rs3 := Rs2.turn t3 hne
  have Sq3 := SitQ.turnQ Sq2 t3 (by simp only [List.mem_singleton]; rintro i rfl hh; omega)
  have T3 := tn T2 t3
  have s3 := t3.size
  clear Rs2 T2 r2 Sq2 t3
  have Ow3 : (w2.alloc (.cells (tmL q.1 (.slice av nn cv)).toArray 33)).ownsRow (w.heap.size + 1) 33 6 (.slice (some ⟨w2.heap.size, 0, none⟩) 1 1) 1 (flQ [(q.1, .slice av nn cv)]) := ⟨rfl, .inr ⟨_, 1, _, rfl, by omega, heap_alloc_last _ _, Nat.le_refl _, by unfold maxLen; decide, rfl, rfl⟩⟩
  generalize hW3 : w2.alloc _ = w3 at *
  clear hW3
  obtain ⟨gx, hgx⟩ : ∃ g, Hid (g = w2.heap.size) := ⟨_, rfl⟩
  have hgx1 : w.heap.size < gx := by rw [hgx.out]; omega
  have hgx2 : gx < w3.heap.size := by rw [hgx.out]; omega
  have hgx3 : C0 ≤ gx := by rw [hgx.out]; omega
  rw [← hgx.out] at Ow3 ⊢
  clear Lx3 hnLx hxLx
  refine Calls.mono (term_c _ _ _ _ _ _) ?_
  rintro e w4 ⟨rfl, b4⟩
  have t4 := Turn.of_below (S := [rb]) b4
  have r4 := r3.next b4
  have Rs4 := Rs3.turn t4 hne
  have Ow4 := ownQ_turn Ow3 t4 (by simp; omega)
  have Sq4 := SitQ.turnQ Sq3 t4 (by simp only [List.mem_singleton]; rintro i rfl hh; omega)
  have T4 := tn T3 t4
  have s4 := t4.size
  clear Rs3 T3 r3 Ow3 Sq3 b4 t4
  go_wp2_with fail
  have t5 := tnO (ob := .cells ([.int .i64 36, .string ⟨#[]⟩, .int .i64 0, .int .i64 0, .int .i64 (t0.at_ : Nat), .slice (some ⟨gx, 0, none⟩) 1 1]).toArray 33) (Turn.refl [rb] w4)
  have r5 := r4.onO (ob := .cells ([.int .i64 36, .string ⟨#[]⟩, .int .i64 0, .int .i64 0, .int .i64 (t0.at_ : Nat), .slice (some ⟨gx, 0, none⟩) 1 1]).toArray 33)
  have Lt5 := Box.new w4 [.int .i64 36, .string ⟨#[]⟩, .int .i64 0, .int .i64 0, .int .i64 (t0.at_ : Nat), .slice (some ⟨gx, 0, none⟩) 1 1] 33
  have hnLt : w4.heap.size ∉ [rb] := by simp; omega
  have hxLt : w4.heap.size < (w4.alloc (.cells ([.int .i64 36, .string ⟨#[]⟩, .int .i64 0, .int .i64 0, .int .i64 (t0.at_ : Nat), .slice (some ⟨gx, 0, none⟩) 1 1]).toArray 33)).heap.size := by simp
  have Rs5 := Rs4.turn t5 hne
  have Ow5 := ownQ_turn Ow4 t5 (by simp; omega)
  have Sq5 := SitQ.turnQ Sq4 t5 (by simp only [List.mem_singleton]; rintro i rfl hh; omega)
  have T5 := tn T4 t5
  have s5 := t5.size
  clear Rs4 T4 r4 Ow4 Sq4 t5
  generalize hW5 : w4.alloc _ = w5 at *
  clear hW5
  have hqN : q.2.length ≤ N := by
    have h1 := hDE _ _ hy1
    have h3 := tail_le L
    omega
  refine Calls.mono (begin_c k_lb _ r5) ?_
  rintro e w6 h6
  rcases hy2 : mustS c k_lb q.2 with f | y
  · obtain ⟨rfl, t6⟩ := beg_err hy2 h6
    go_wp2_with fail
    exact ⟨rfl, hE.out _ _ (by rw [hpr1.out, beginP, hy2]; rfl) (tn T5 t6)⟩
  rcases A with _ | E
  · obtain ⟨rfl, t6⟩ := beg_deep hy2 (HX.no rfl) h6
    go_wp2_with fail
    exact ⟨rfl, hE.out _ _ (by rw [hpr1.out, beginP, hy2]; rfl) (tn T5 t6)⟩
  obtain ⟨rfl, t6, r6⟩ := beg_ok hy2 (HX.yes E rfl).1 h6
  have Rs6 := Rs5.turn t6 hne
  have Lt6 := Lt5.turn t6 hnLt
  have Ow6 := ownQ_turn Ow5 t6 (by simp; omega)
  have Sq6 := SitQ.turnQ Sq5 t6 (by simp only [List.mem_singleton]; rintro i rfl hh; omega)
  have T6 := tn T5 t6
  have s6 := t6.size
  clear Rs5 Lt5 T5 r5 Ow5 Sq5 h6 t6
  have hpr2 : Hid (pr = bnd (rungs c E y.2.length [q.1] y.2) fun z => .ok (tm 36 t0.at_ z.1, z.2)) := by show _ = _; rw [hpr1.out, beginP, hy2]; rfl
  obtain ⟨ho64, HAc, hDec⟩ := HX.yes E rfl
  have hyN : y.2.length ≤ N := by
    have h1 := dec_must hy2
    omega
  have C : LaS z w w6 rb tb lb c (o + 1) (w4.heap.size) t0.at_ y.2 (.slice (some ⟨gx, 0, none⟩) 1 1) [(q.1, .slice av nn cv)] := ⟨Rs6, Lt6, ⟨Ow6, fun he => by have : gx = w4.heap.size := Option.some.inj he; omega, fun p hp => by obtain rfl := List.mem_singleton.1 hp; exact Sq6.weak (fun b _ hq => ⟨⟨hq.1, by have := hq.2; omega⟩, fun he => by have : gx = b := Option.some.inj he; have := hq.2; omega⟩)⟩, r6, T6, by omega, hL⟩
  clear Rs6 Lt6 Ow6 Sq6 T6 r6
  obtain ⟨g, hgg⟩ : ∃ g, Hid (g = w4.heap.size) := ⟨_, rfl⟩
  rw [← hgg.out] at C ⊢
  have HC0 := hid2 C
  clear C
  generalize hW : w6 = W0 at *
  clear hW
  go_wp2_with fail
  go_loopw [] (fun wr => ∃ (Lr : List Tk) (v : Value) (ts : List (Tm × Value)) (f : Nat), Lr.length ≤ f ∧ f ≤ N ∧ ts.length + 2 * f ≤ 2 * N + 1 ∧ Hid (LaS z w wr rb tb lb c (o + 1) g t0.at_ Lr v ts) ∧ Hid (pr = bnd (rungs c E f (ts.map Prod.fst) Lr) fun z => .ok (tm 36 t0.at_ z.1, z.2))) (fun wr => rdLen wr rb)
  · exact ⟨y.2, _, _, y.2.length, Nat.le_refl _, hyN, by simp; omega, HC0, hpr2⟩
  obtain ⟨Lr, v, ts, f, hf, hfN, hts, HC, HQ⟩ := hrel
  have hpos := HC.out.re.tl.pos
  have hlen := HC.out.re.len
  obtain ⟨f', rfl⟩ : ∃ f', f = f' + 1 := ⟨f - 1, by omega⟩
  clear HC0 hpr2
  rw [rungs_succ] at HQ
  have hgg0 := HC.out.gg
  go_wp2_with fail
  refine Calls.mono (may_c k_else _ HC.out.re) ?_
  rintro e w1x h1
  rcases hz1 : mayS c k_else Lr with fl | st
  · obtain ⟨rfl, t1⟩ := Out.of_err hz1 h1
    go_wp2_with fail
    exact ⟨rfl, hE.out _ _ (by rw [HQ.out, hz1]; rfl) (tn HC.out.tn t1)⟩
  obtain ⟨t1, _, rfl, rfl, r1⟩ := Out.of_ok hz1 h1
  have HC1 := hid2 (HC.out.turn t1 r1)
  have HQ1 : Hid (pr = bnd (if st.1 = true then bnd (mustS c k_col st.2) fun a => bnd (E a.2) fun y => closeP c k_rb (ts.map Prod.fst ++ [y.1], y.2) else bnd (boundP c st.2) fun x => bnd (mustS c k_col x.2) fun a => bnd (E a.2) fun y => bnd (mustS c k_com y.2) fun d => rungs c E f' (ts.map Prod.fst ++ [x.1, y.1]) d.2) fun z => .ok (tm 36 t0.at_ z.1, z.2)) := by show _ = _; rw [HQ.out, hz1]; rfl
  have sz1 := t1.size
  clear h1 t1 r1 HC HQ
  have hd1 := dec_may hz1
  obtain ⟨sb, Ls⟩ := st
  cases sb
  · have HQ2 : Hid (pr = bnd (bnd (boundP c Ls) fun x => bnd (mustS c k_col x.2) fun a => bnd (E a.2) fun y => bnd (mustS c k_com y.2) fun d => rungs c E f' (ts.map Prod.fst ++ [x.1, y.1]) d.2) fun z => .ok (tm 36 t0.at_ z.1, z.2)) := HQ1.out
    clear HQ1
    go_wp2_with fail
    refine Calls.mono (bound_c hz _ _ HC1.out.re) ?_
    rintro e w2x h1
    rcases hz2 : boundP c Ls with fl | x
    · obtain ⟨rfl, t1⟩ := Out.of_err hz2 h1
      go_wp2_with fail
      exact ⟨rfl, hE.out _ _ (by rw [HQ2.out, hz2]; rfl) (tn HC1.out.tn t1)⟩
    obtain ⟨t1, _, rfl, ⟨u2, rfl, S2⟩, r1⟩ := Out.of_ok hz2 h1
    have HC2 := hid2 (HC1.out.turn t1 r1)
    have HQ3 : Hid (pr = bnd (bnd (mustS c k_col x.2) fun a => bnd (E a.2) fun y => bnd (mustS c k_com y.2) fun d => rungs c E f' (ts.map Prod.fst ++ [x.1, y.1]) d.2) fun z => .ok (tm 36 t0.at_ z.1, z.2)) := by show _ = _; rw [HQ2.out, hz2]; rfl
    have sz2 := t1.size
    have hbk := hid2 HC1.out.pa.blk
    have hlg1 := HC1.out.lt.lt
    clear h1 t1 r1 HC1 HQ2
    have hd2 := dec_bound c _ _ hz2
    obtain ⟨ab, cb, hu, -, -⟩ := S2.parts.shape
    subst hu
    generalize hnb : x.1.parts.length = nb at *
    have Sb : SitQ (fun b => ((w.heap.size + 1 ≤ b ∧ b ≠ g) ∧ v.ownBlock ≠ some b) ∧ b < w2x.heap.size) z w2x x.1 (.slice ab nb cb) := SitQ.weak S2 (fun b hb hq => ⟨⟨⟨by have : w1x.heap.size ≤ b := hq; omega, by have : w1x.heap.size ≤ b := hq; omega⟩, fun he => by have := (hbk.out b he).2; have : w1x.heap.size ≤ b := hq; omega⟩, hb⟩)
    clear S2 hbk
    go_wp2_with fail
    have HC3 := hid2 (HC2.out.next ((Below.refl _ _).alloc (Nat.le_refl _) (.cells (tmL x.1 (.slice ab nb cb)).toArray 33)))
    have Bd3 := Box.new w2x (tmL x.1 (.slice ab nb cb)) 33
    have Sb3 := SitQ.turnQ (S := []) Sb (Turn.of_below ((Below.refl _ _).alloc (Nat.le_refl _) (.cells (tmL x.1 (.slice ab nb cb)).toArray 33))) (by simp)
    have hsz3 : w2x.heap.size < (w2x.alloc (.cells (tmL x.1 (.slice ab nb cb)).toArray 33)).heap.size := by simp
    clear HC2 Sb
    obtain ⟨bb, hbb⟩ : ∃ bb, Hid (bb = w2x.heap.size) := ⟨_, rfl⟩
    rw [← hbb.out] at Bd3 Sb3 hsz3 ⊢
    have hbb1 : w1x.heap.size ≤ bb := by rw [hbb.out]; omega
    generalize hW3 : w2x.alloc _ = w3x at *
    clear hW3
    refine Calls.mono (must_c k_col _ HC3.out.re) ?_
    rintro e w4x h1
    rcases hz3 : mustS c k_col x.2 with fl | a
    · obtain ⟨rfl, t1⟩ := Out.of_err hz3 h1
      go_wp2_with fail
      exact ⟨rfl, hE.out _ _ (by rw [HQ3.out, hz3]; rfl) (tn HC3.out.tn t1)⟩
    obtain ⟨t1, _, rfl, rfl, r1⟩ := Out.of_ok hz3 h1
    have HC4 := hid2 (HC3.out.turn t1 r1)
    have HQ4 : Hid (pr = bnd (bnd (E a.2) fun y => bnd (mustS c k_com y.2) fun d => rungs c E f' (ts.map Prod.fst ++ [x.1, y.1]) d.2) fun z => .ok (tm 36 t0.at_ z.1, z.2)) := by show _ = _; rw [HQ3.out, hz3]; rfl
    have sz3 := t1.size
    have hrb0 : rb < w.heap.size := hL.1
    have Bd4 := Bd3.turn t1 (by simp; omega)
    have Sb4 := SitQ.turnQ Sb3 t1 (by simp only [List.mem_singleton]; rintro i rfl hh; omega)
    clear Bd3 Sb3
    clear h1 t1 r1 HC3 HQ3
    have hd3 := dec_must hz3
    have haN : a.2.length ≤ N := by omega
    obtain ⟨x0, x1, x2, x3, x4, x5, y0, y1, y2, y3, y4, y5⟩ := Bd4.six
    have xl := Bd4.lt
    have c5 := HC4.out.lt.cell 5 _ rfl
    have l5 := HC4.out.lt.lt
    clear y0 y1 y2 y3 y4 y5
    have HSb := hid2 Sb4
    have HBd := hid2 Bd4
    clear Sb4 Bd4
    go_wp2_with fail
    go_region_law (first
      | (refine step_out rfl (HAc _ haN _ (HC4.out.re.next (Below.refl _ _).drew)) (by first | rfl | go_simp) (fun fl w' hf ht => ⟨rfl, hE.out _ _ (by rw [HQ4.out, hf]; rfl) (tn HC4.out.tn (tn (Turn.of_below (Below.refl _ _).drew) ht))⟩) ?_; rintro x60 _ w60 hy60 t60 ⟨u60, rfl, S60⟩ r60; have z60 : Hid (w4x.heap.size ≤ w60.heap.size) := t60.size; have C60 := hid2 ((HC4.out.next (Below.refl _ _).drew).turn t60 r60); have q60 := hid2 (HC4.out.next (Below.refl _ w4x).drew).pa.blk; have c560 := C60.out.lt.cell 5 _ rfl; have l560 := C60.out.lt.lt; have X60 := hid2 S60; have Bd60 := HBd.out.turn (tn (Turn.of_below (Below.refl _ _).drew) t60) (by simp; omega); obtain ⟨X0, X1, X2, X3, X4, X5, _⟩ := Bd60.six; have XL := Bd60.lt; have SB60 := hid2 (SitQ.turnQ HSb.out (tn (Turn.of_below (Below.refl _ _).drew) t60) (by simp only [List.mem_singleton]; rintro i rfl hh; omega)); clear S60 t60 r60)
      | (refine step_append_tg w60 (w.heap.size + 1) g rfl (.tmp 21) (.tmp 25) rfl v ts [(x.1, .slice ab nb cb), (x60.1, u60)] rfl (by simp [Act.eval]) C60.out.pa (by have := C60.out.lt.lt; omega) (fun p hp => by simp only [List.mem_cons, List.not_mem_nil, or_false] at hp; rcases hp with rfl | rfl; exact (SB60.out.weak (fun _ _ hq => hq.1)); exact sit_apartG X60.out (by simp <;> omega) (by simp <;> omega) (fun q hq => (q60.out q hq).2)) (by simp <;> omega) (by have := z60.out; have := HC4.out.gg; have := HC4.out.lt.lt; omega) (by simp [Act.eval]) ?_; intro a60 d60 wa60 k60 p60 hk60 hg60 b60; have CA60 := hid2 (C60.out.added p60 hk60 hg60 b60); have l60 := (C60.out.lt.turn b60 (by simp; omega)).lt; have e560 := (C60.out.lt.turn b60 (by simp; omega)).cell 5 _ rfl; have f560 := (C60.out.lt.turn b60 (by simp; omega)).free 5 (by simp); clear p60 b60))
    all_goals (
      have HQ5 : Hid (pr = bnd (bnd (mustS c k_com x60.2) fun d => rungs c E f' (ts.map Prod.fst ++ [x.1, x60.1]) d.2) fun z => .ok (tm 36 t0.at_ z.1, z.2)) := by show _ = _; rw [HQ4.out, hy60]; rfl
      have hd4 := hDec _ _ hy60
      have CA := CA60
      clear CA60 C60 c560 l560 q60 X60 z60 l60 e560 f560 SB60 X0 X1 X2 X3 X4 X5 XL x0 x1 x2 x3 x4 x5 xl c5 l5 HSb HBd HC4 HQ4
      generalize hW1 : wa60.setCell _ _ = W1 at *
      clear hW1
      go_wp2_with fail
      refine Calls.mono (must_c k_com _ CA.out.re) ?_
      rintro e w7 h7
      rcases hz7 : mustS c k_com x60.2 with fl | d
      · obtain ⟨rfl, t7⟩ := Out.of_err hz7 h7
        go_wp2_with fail
        exact ⟨rfl, hE.out _ _ (by rw [HQ5.out, hz7]; rfl) (tn CA.out.tn t7)⟩
      obtain ⟨t7, _, rfl, rfl, r7⟩ := Out.of_ok hz7 h7
      have CB := hid2 (CA.out.turn t7 r7)
      have HQ6 : Hid (pr = bnd (rungs c E f' (ts.map Prod.fst ++ [x.1, x60.1]) d.2) fun z => .ok (tm 36 t0.at_ z.1, z.2)) := by show _ = _; rw [HQ5.out, hz7]; rfl
      have hd5 : d.2.length + 1 ≤ x60.2.length := by
        have h1 := mustS_len hz7
        have h2 := (CA.out.re.tl).pos
        rw [h1, List.length_tail]
        omega
      clear h7 t7 r7 CA HQ5
      go_wp2_with fail
      go_roundw
      · exact ⟨d.2, _, _, f', by omega, by omega, by simp; omega, CB, by show _ = _; rw [HQ6.out]; simp⟩
      · rw [CB.out.re.len, hlen]
        omega)
  · have HQ2 : Hid (pr = bnd (bnd (mustS c k_col Ls) fun a => bnd (E a.2) fun y => closeP c k_rb (ts.map Prod.fst ++ [y.1], y.2)) fun z => .ok (tm 36 t0.at_ z.1, z.2)) := HQ1.out
    clear HQ1
    go_wp2_with fail
    refine Calls.mono (must_c k_col _ HC1.out.re) ?_
    rintro e w4x h1
    rcases hz4 : mustS c k_col Ls with fl | a
    · obtain ⟨rfl, t1⟩ := Out.of_err hz4 h1
      go_wp2_with fail
      exact ⟨rfl, hE.out _ _ (by rw [HQ2.out, hz4]; rfl) (tn HC1.out.tn t1)⟩
    obtain ⟨t1, _, rfl, rfl, r1⟩ := Out.of_ok hz4 h1
    have HC4 := hid2 (HC1.out.turn t1 r1)
    have HQ4 : Hid (pr = bnd (bnd (E a.2) fun y => closeP c k_rb (ts.map Prod.fst ++ [y.1], y.2)) fun z => .ok (tm 36 t0.at_ z.1, z.2)) := by show _ = _; rw [HQ2.out, hz4]; rfl
    have sz4 := t1.size
    clear h1 t1 r1 HC1 HQ2
    have hd3 := dec_must hz4
    have haN : a.2.length ≤ N := by omega
    have hrb0 : rb < w.heap.size := hL.1
    have c5 := HC4.out.lt.cell 5 _ rfl
    have l5 := HC4.out.lt.lt
    go_wp2_with fail
    go_region_law (first
      | (refine step_out rfl (HAc _ haN _ (HC4.out.re.next (Below.refl _ _).drew)) (by first | rfl | go_simp) (fun fl w' hf ht => ⟨rfl, hE.out _ _ (by rw [HQ4.out, hf]; rfl) (tn HC4.out.tn (tn (Turn.of_below (Below.refl _ _).drew) ht))⟩) ?_; rintro x60 _ w60 hy60 t60 ⟨u60, rfl, S60⟩ r60; have z60 : Hid (w4x.heap.size ≤ w60.heap.size) := t60.size; have C60 := hid2 ((HC4.out.next (Below.refl _ _).drew).turn t60 r60); have q60 := hid2 (HC4.out.next (Below.refl _ w4x).drew).pa.blk; have c560 := C60.out.lt.cell 5 _ rfl; have l560 := C60.out.lt.lt; have X60 := hid2 S60; clear S60 t60 r60)
      | (refine step_append_tg w60 (w.heap.size + 1) g rfl (.tmp 33) (.tmp 36) rfl v ts [(x60.1, u60)] rfl (by simp [Act.eval]) C60.out.pa (by have := C60.out.lt.lt; omega) (fun p hp => by obtain rfl := List.mem_singleton.1 hp; exact sit_apartG X60.out (by simp <;> omega) (by simp <;> omega) (fun q hq => (q60.out q hq).2)) (by simp <;> omega) (by have := z60.out; have := HC4.out.gg; have := HC4.out.lt.lt; omega) (by simp [Act.eval]) ?_; intro a60 d60 wa60 k60 p60 hk60 hg60 b60; have CA60 := hid2 (C60.out.added p60 hk60 hg60 b60); have l60 := (C60.out.lt.turn b60 (by simp; omega)).lt; have e560 := (C60.out.lt.turn b60 (by simp; omega)).cell 5 _ rfl; have f560 := (C60.out.lt.turn b60 (by simp; omega)).free 5 (by simp); clear p60 b60))
    all_goals (
      have HQ5 : Hid (pr = bnd (closeP c k_rb (ts.map Prod.fst ++ [x60.1], x60.2)) fun z => .ok (tm 36 t0.at_ z.1, z.2)) := by show _ = _; rw [HQ4.out, hy60]; rfl
      rw [closeP] at HQ5
      have CA := CA60
      clear CA60 C60 c560 l560 q60 X60 z60 l60 e560 f560 c5 l5 HC4 HQ4
      generalize hW1 : wa60.setCell _ _ = W1 at *
      clear hW1
      go_wp2_with fail
      refine Calls.mono (close_c k_rb _ CA.out.re) ?_
      rintro e w7 h7
      rcases hz7 : mustS c k_rb x60.2 with fl | d
      · obtain ⟨rfl, t7⟩ := Out.of_err hz7 h7
        go_wp2_with fail
        exact ⟨rfl, hE.out _ _ (by rw [HQ5.out]; simp only [hz7]; rfl) (tn CA.out.tn t7)⟩
      obtain ⟨t7, _, rfl, rfl, r7⟩ := Out.of_ok hz7 h7
      have CB := hid2 (CA.out.turn t7 r7)
      have HQ6 : Hid (pr = .ok (tm 36 t0.at_ (ts.map Prod.fst ++ [x60.1]), d.2)) := by show _ = _; rw [HQ5.out]; simp only [hz7]; rfl
      clear h7 t7 CA HQ5
      obtain ⟨p0, p1, p2, p3, p4, p5, q0, q1, q2, q3, q4, q5⟩ := CB.out.rs.six
      obtain ⟨x0, x1, x2, x3, x4, x5, y0, y1, y2, y3, y4, y5⟩ := CB.out.lt.six
      have xl := CB.out.lt.lt
      have pl := CB.out.rs.lt
      have hg1 : g ≠ w.heap.size := by omega
      go_wp2_with fail
      refine bodyPost_ret (v := tmV (tm 36 t0.at_ (ts.map Prod.fst ++ [x60.1])) (.slice a60 (ts.length + 1) d60)) (by simp [results, Tryz.results77, go_sem, *]) rfl (hO.out (tm 36 t0.at_ (ts.map Prod.fst ++ [x60.1])) d.2 _ _ (.slice a60 (ts.length + 1) d60) HQ6.out ?_ rfl ?_ ?_)
      · exact CB.out.tn.trans (turn_six _ _ _ _ _ _ _ _) (fun i hi => .inr (by simp at hi; omega))
      · exact SitB.lower ((CB.out.pa.turn (turn_six _ _ _ _ _ _ _ _) (by simp)).sits (fit_of _ _ _ _ _ _ hz (by decide) (by decide) (Nat.zero_le _) zero64 zero64 hok.a) (by simp)) (by omega)
      · exact r7.turn1 (turn_six _ _ _ _ _ _ _ _) hL)
end Go.Proofs.YtecdfnpbcabdnaaGreatDoor

/- One call on both: the answers are one. -/
import Derived.Test.YtccgbkafcbfcgaaPaF
namespace Go.Proofs.Ytccgbkafcbfcgaa
open Go.RowKit

/-- What a step leaves: both as they agree. -/
def Stepped (B : Nat) (w : World) (b rb : Nat) (m a s p : Int) (n : Nat) (w' : World) : Prop := ∃ (F : List Nat) (g : Nat) (ck : Int) (on : Bool) (A L : List Pr), Duo8 B w' b rb F g m a s p ck on A L ∧ A.length ≤ n ∧ Below B w w'
theorem Duo8.notF {B : Nat} {w : World} {b rb : Nat} {F : List Nat} {g : Nat} {m a s p ck : Int} {on : Bool} {A L : List Pr} (h : Duo8 B w b rb F g m a s p ck on A L) {n : Nat} (hn : w.heap.size ≤ n) : n ∉ F ∧ n ≠ rb ∧ n ≠ g := by
  obtain ⟨l1, l2⟩ := h.ref.lt
  exact ⟨fun hm => by have := h.win.lt n hm; omega, by omega, by omega⟩
theorem Half.notF {B : Nat} {w : World} {b rb : Nat} {F : List Nat} {g : Nat} {m a s p ck : Int} {on : Bool} {A : List Pr} {t : Int} {L : List Pr} (h : Half B w b rb F g m a s p ck on A t L) {n : Nat} (hn : w.heap.size ≤ n) : n ∉ F ∧ n ≠ rb ∧ n ≠ g := by
  obtain ⟨l1, l2⟩ := h.ref.lt
  exact ⟨fun hm => by have := h.win.lt n hm; omega, by omega, by omega⟩
set_option maxRecDepth 20000 in
set_option maxHeartbeats 4000000 in
theorem step_put (B b rb : Nat) (F : List Nat) (g : Nat) (m a s p ck : Int) (on : Bool) (A L : List Pr) (x : Pr) (w : World) (h : Duo8 B w b rb F g m a s p ck on A L) (i1 : In64 x.1) (i2 : In64 x.2) (hl : A.length < 8796093022208) :
    Calls Try.prog 12 #[.pointer (some ⟨b, 0, none⟩), .pointer (some ⟨rb, 0, none⟩), .agg #[.int .i64 1, .int .i64 x.1, .int .i64 x.2]] w fun e w' => e = .returned (.bool true) ∧ Stepped B w b rb m a s p (A.length + 1) w' := by
  obtain ⟨b1, b2, bB⟩ := two_boxes w 37 45 [.int .i64 1, .int .i64 x.1, .int .i64 x.2] [.int .i64 x.1, .int .i64 x.2]
  obtain ⟨hN0, hB0⟩ := one_box w 37 [.int .i64 1, .int .i64 x.1, .int .i64 x.2]
  obtain ⟨W, hW⟩ : ∃ W, W = (w.alloc (.cells #[.int .i64 1, .int .i64 x.1, .int .i64 x.2] 37)).alloc (.cells #[.int .i64 x.1, .int .i64 x.2] 45) := ⟨_, rfl⟩
  rw [← hW] at b1 b2 bB
  have hD := h.next bB
  have hst := h.start
  obtain ⟨nf, nr, ng⟩ := h.notF (n := w.heap.size + 1) (by omega)
  have c0 := b2.cell 0 _ rfl
  have c1 := b2.cell 1 _ rfl
  have cl := b2.lt
  have a0 := hN0.cell 0 _ rfl
  have a1 := hN0.cell 1 _ rfl
  have a2 := hN0.cell 2 _ rfl
  have al := hN0.lt
  have HD := hid hD
  have HN := hid b2
  have HBB := hid (show Below B w W from bB.mono hst)
  clear hD b1 b2 bB hN0 hB0 h
  go_enter Try.func12, Try.ntmps12
  go_upto_region 4 with fail
  rw [← hW]
  clear hW a0 a1 a2 al
  generalize w.heap.size + 1 = n at *
  by_cases hs : on = true ∧ x.1 < ck
  · obtain ⟨rfl, hck⟩ := hs
    have HP := hid (fun k => wPut_stale b F a s p ck L x (W.drewN k) (HD.out.next (drewN_below W k)).win hck)
    go_region_with (first | (go_at_call 14; refine Calls.mono (HP.out 1) ?_; rintro e w1 ⟨rfl, hb1⟩; have hb := (drewN_below W 1).trans hb1; have d0 := (hb.cell (p := ⟨n, 0, none⟩) cl).trans c0; have d1 := (hb.cell (p := ⟨n, 1, none⟩) cl).trans c1; have HD1 := hid (HD.out.next hb); have H1 := hid hb; clear hb hb1) | (go_at_call 15; refine Calls.mono (fPut_stale rb g m a s p ck A x _ HD1.out.ref hck) ?_; rintro e w2 ⟨rfl, hb2⟩; have H2 := hid hb2; clear hb2))
    all_goals go_wp2_with fail
    all_goals go_ret
    all_goals (
      have b2 := HD1.out.next H2.out
      exact ⟨rfl, F, g, ck, true, A, L, b2, by omega, (HBB.out.trans (H1.out.mono HD.out.start)).trans (H2.out.mono HD1.out.start)⟩)
  · have hlt : Later on ck x.1 := fun e => by
      rcases Int.lt_or_le x.1 ck with h1 | h1
      · exact absurd ⟨e, h1⟩ hs
      · exact h1
    have HP := hid (fun k => wPut b F a s p ck on L x (W.drewN k) (HD.out.next (drewN_below W k)).win i1 i2 hlt)
    have HL := hid hlt
    clear hs hlt
    go_region_with (first | (go_at_call 14; refine Calls.mono (HP.out 1) ?_; rintro e w1 ⟨rfl, g1⟩; obtain ⟨F1, hH, hN1, nf1, hB1⟩ := (HD.out.next (drewN_below W 1)).first g1 (HN.out.next (drewN_below W 1)) nf; have d0 := hN1.cell 0 _ rfl; have d1 := hN1.cell 1 _ rfl; have HH := hid hH; have HN1 := hid hN1; have HB1 := hid ((show Below B W (W.drewN 1) from (drewN_below W 1).mono HD.out.start).trans hB1); clear hH hN1 hB1 g1) | (go_at_call 15; refine Calls.mono (fPut rb g m a s p ck on A x _ HH.out.ref HL.out hl) ?_; rintro e w2 ⟨rfl, g2⟩; obtain ⟨g', hD2, -, hB2⟩ := HH.out.second g2 (HD.out.agree.put HL.out i1 i2) HN1.out nr ng; have HD2 := hid hD2; have HB2 := hid hB2; clear hD2 hB2 g2))
    all_goals go_wp2_with fail
    all_goals go_ret
    all_goals exact ⟨rfl, _, _, _, _, _, _, HD2.out, by simp, (HBB.out.trans HB1.out).trans HB2.out⟩
set_option maxRecDepth 20000 in
set_option maxHeartbeats 4000000 in
theorem step_read (B b rb : Nat) (F : List Nat) (g : Nat) (m a s p ck : Int) (on : Bool) (A L : List Pr) (x : Pr) (w : World) (h : Duo8 B w b rb F g m a s p ck on A L) (hr : RightT m a s p) (i1 : In64 x.1) (hl : A.length < 8796093022208) :
    Calls Try.prog 12 #[.pointer (some ⟨b, 0, none⟩), .pointer (some ⟨rb, 0, none⟩), .agg #[.int .i64 2, .int .i64 x.1, .int .i64 x.2]] w fun e w' => e = .returned (.bool true) ∧ Stepped B w b rb m a s p (A.length + 1) w' := by
  obtain ⟨hN0, hB0⟩ := one_box w 37 [.int .i64 2, .int .i64 x.1, .int .i64 x.2]
  obtain ⟨W, hW⟩ : ∃ W, W = w.alloc (.cells #[.int .i64 2, .int .i64 x.1, .int .i64 x.2] 37) := ⟨_, rfl⟩
  rw [← hW] at hN0 hB0
  have hD := h.next hB0
  obtain ⟨nf, nr, ng⟩ := h.notF (n := w.heap.size) (Nat.le_refl _)
  have a0 := hN0.cell 0 _ rfl
  have a1 := hN0.cell 1 _ rfl
  have al := hN0.lt
  have HD := hid hD
  have HN := hid hN0
  have HBB := hid (show Below B w W from hB0.mono h.start)
  clear hD hN0 hB0 h
  go_enter Try.func12, Try.ntmps12
  go_upto_region 1 with fail
  rw [← hW]
  clear hW
  generalize w.heap.size = n at *
  by_cases hs : on = true ∧ x.1 < ck
  · obtain ⟨rfl, hck⟩ := hs
    go_wp2_with fail
    refine Calls.mono (wRead_stale b F a s p ck L x.1 W HD.out.win hck) ?_
    rintro e w1 ⟨rfl, hb1⟩
    have hb2 : Below W.heap.size W (w1.alloc (.cells #[.int .i64 0, .int .i64 0] 49)) := hb1.alloc hb1.size _
    have hR2 := Box.new w1 [.int .i64 0, .int .i64 0] 49
    obtain ⟨w2, hw2⟩ : ∃ w2, w2 = w1.alloc (.cells #[.int .i64 0, .int .i64 0] 49) := ⟨_, rfl⟩
    rw [← hw2] at hb2 hR2
    have hN2 := HN.out.next hb2
    have d1 := hN2.cell 1 _ rfl
    have HD2 := hid (HD.out.next hb2)
    have HR2 := hid hR2
    have HB2 := hid (HBB.out.trans (hb2.mono HD.out.start))
    clear hb1 hb2 hR2 a0 a1
    simp only [rv, r0]
    go_upto_region 7 with fail
    rw [← hw2]
    clear hw2 hN2
    generalize w1.heap.size = q at *
    go_wp2_with fail
    refine Calls.mono (gRead_stale rb g m a s p ck A x.1 w2 HD2.out.ref hck) ?_
    rintro e w3 ⟨rfl, hb3⟩
    have hb4 : Below w2.heap.size w2 (w3.alloc (.cells #[.int .i64 0, .int .i64 0] 49)) := hb3.alloc hb3.size _
    have hR4 := Box.new w3 [.int .i64 0, .int .i64 0] 49
    obtain ⟨w4, hw4⟩ : ∃ w4, w4 = w3.alloc (.cells #[.int .i64 0, .int .i64 0] 49) := ⟨_, rfl⟩
    rw [← hw4] at hb4 hR4
    have hQ4 := HR2.out.next hb4
    have y0 := hQ4.cell 0 _ rfl
    have y1 := hQ4.cell 1 _ rfl
    have z0 := hR4.cell 0 _ rfl
    have z1 := hR4.cell 1 _ rfl
    have HD4 := hid (HD2.out.next hb4)
    have HB4 := hid (HB2.out.trans (hb4.mono HD2.out.start))
    clear hb3 hb4 hR4 hQ4 d1
    simp only [rv, r0]
    go_upto_region 8 with fail
    rw [← hw4]
    clear hw4
    generalize w3.heap.size = q4 at *
    go_wp2_with fail
    go_ret
    exact ⟨rfl, F, g, ck, true, A, L, HD4.out, by omega, HB4.out⟩
  · have hlt : Later on ck x.1 := fun e => by
      rcases Int.lt_or_le x.1 ck with h1 | h1
      · exact absurd ⟨e, h1⟩ hs
      · exact h1
    have HL := hid hlt
    have hsame : toldOf a p (vals (heldOf s x.1 A)) = toldOf a p (vals (fresh s x.1 L)) := by rw [HD.out.agree.same x.1 hlt]
    generalize hy : toldOf a p (vals (fresh s x.1 L)) = y at hsame
    have HY := hid hy
    have HYA := hid hsame
    clear hs hlt hy hsame
    go_wp2_with fail
    refine Calls.mono (wRead b F a s p ck on L x.1 W HD.out.win i1 HL.out) ?_
    rw [HY.out]
    rintro e w1 ⟨rfl, g1⟩
    obtain ⟨F1, hH, hN1, nf1, hB1⟩ := HD.out.first g1 HN.out nf
    have hb2 : Below w1.heap.size w1 (w1.alloc (.cells #[.int .i64 y.1, .int .i64 y.2] 49)) := (Below.refl _ _).alloc (Nat.le_refl _) _
    have hR2 := Box.new w1 [.int .i64 y.1, .int .i64 y.2] 49
    obtain ⟨w2, hw2⟩ : ∃ w2, w2 = w1.alloc (.cells #[.int .i64 y.1, .int .i64 y.2] 49) := ⟨_, rfl⟩
    rw [← hw2] at hb2 hR2
    obtain ⟨qf, qr, qg⟩ := hH.notF (n := w1.heap.size) (Nat.le_refl _)
    have hN2 := hN1.next hb2
    have d1 := hN2.cell 1 _ rfl
    have HH2 := hid (hH.next hb2)
    have HR2 := hid hR2
    have HB2 := hid ((HBB.out.trans hB1).trans (hb2.mono (show B ≤ w1.heap.size from hH.start)))
    clear hB1 hb2 hR2 a0 a1 hH hN1 g1
    simp only [rv]
    go_upto_region 7 with fail
    rw [← hw2]
    clear hw2 hN2
    generalize w1.heap.size = q at *
    go_wp2_with fail
    refine Calls.mono (gRead rb g m a s p ck on A x.1 w2 HH2.out.ref HL.out hl (HD.out.agree.all HL.out) i1 hr) ?_
    rw [HYA.out]
    rintro e w3 ⟨rfl, g3⟩
    obtain ⟨g', hD3, hQ3, hB3⟩ := HH2.out.second g3 (HD.out.agree.read HL.out) HR2.out qr qg
    have hb4 : Below w3.heap.size w3 (w3.alloc (.cells #[.int .i64 y.1, .int .i64 y.2] 49)) := (Below.refl _ _).alloc (Nat.le_refl _) _
    have hR4 := Box.new w3 [.int .i64 y.1, .int .i64 y.2] 49
    obtain ⟨w4, hw4⟩ : ∃ w4, w4 = w3.alloc (.cells #[.int .i64 y.1, .int .i64 y.2] 49) := ⟨_, rfl⟩
    rw [← hw4] at hb4 hR4
    have hQ4 := hQ3.next hb4
    have y0 := hQ4.cell 0 _ rfl
    have y1 := hQ4.cell 1 _ rfl
    have z0 := hR4.cell 0 _ rfl
    have z1 := hR4.cell 1 _ rfl
    have HD4 := hid (hD3.next hb4)
    have HB4 := hid ((HB2.out.trans hB3).trans (hb4.mono hD3.start))
    clear hb4 hR4 hQ4 d1 hD3 hQ3 hB3 g3
    simp only [rv]
    go_upto_region 8 with fail
    rw [← hw4]
    clear hw4
    generalize w3.heap.size = q4 at *
    have xx1 : (y.1 == y.1) = true := by simp
    have xx2 : (y.2 == y.2) = true := by simp
    go_wp2_with fail
    go_ret
    exact ⟨rfl, _, _, _, _, _, _, HD4.out, by omega, HB4.out⟩
end Go.Proofs.Ytccgbkafcbfcgaa

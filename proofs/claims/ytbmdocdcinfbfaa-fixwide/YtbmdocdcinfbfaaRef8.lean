/- The document's Mul, Scale, Floor, Ceil, Whole, Count, Mean and Div (package capstanref01). -/
import Derived.Test.YtbmdocdcinfbfaaRef7
namespace Go.Proofs.Ytbmdocdcinfbfaa
open Go.RowKit Go.Deep

theorem pw8 : pw 8 = 340282366920938463463374607431768211456 := by decide
theorem BigV.len8 {w : World} {neg : Bool} {s : Value} {l : List Int} {n : Int} (h : BigV w neg s l n) (h0 : -340282366920938463463374607431768211456 < n) (h1 : n < 340282366920938463463374607431768211456) : l.length ≤ 400 := by
  have := h.len 8 (by rw [pw8]; omega)
  omega
theorem prod_ex (a b : Int) (a0 : -9223372036854775808 ≤ a) (a1 : a < 9223372036854775808) (b0 : -9223372036854775808 ≤ b) (b1 : b < 9223372036854775808) :
    -85070591730234615865843651857942052864 ≤ a * b ∧ a * b ≤ 85070591730234615865843651857942052864 := by
  have h1 : (a.natAbs * b.natAbs : Nat) ≤ 9223372036854775808 * 9223372036854775808 := Nat.mul_le_mul (by omega) (by omega)
  rw [← Int.natAbs_mul] at h1
  omega

set_option maxHeartbeats 400000 in
theorem rMul_any (a b : Int) (a0 : -9223372036854775808 ≤ a) (a1 : a < 9223372036854775808) (b0 : -9223372036854775808 ≤ b) (b1 : b < 9223372036854775808) (w : World) :
    Calls Try.prog 21 #[.int .i64 a, .int .i64 b] w fun e w' => e = .returned (.int .i64 (rheld (a * b / 1000000))) ∧ Below w.heap.size w w' := by
  have hp := prod_ex a b a0 a1 b0 b1
  go_enter Try.func21, Try.ntmps21
  go_wp2_with fail
  refine (Of_any a a0 a1 _).mono ?_
  rintro e w1 ⟨na, sa, la, rfl, va, hb1⟩
  go_wp2_with fail
  refine (Of_any b b0 b1 _).mono ?_
  rintro e w2 ⟨nb, sb, lb, rfl, vb, hb2⟩
  go_wp2_with fail
  refine (Times_any na nb sa sb la lb a b _ (va.later hb2) vb (va.len8 (by omega) (by omega)) (vb.len8 (by omega) (by omega))).mono ?_
  rintro e w3 ⟨nc, sc, lc, rfl, vc, hb3⟩
  go_wp2_with fail
  refine (Over_any nc sc lc _ 1000000 _ vc (vc.len8 (by omega) (by omega)) (by decide) (by decide)).mono ?_
  rintro e w4 ⟨nd, sd, ld, rfl, vd, hb4⟩
  go_wp2_with fail
  refine (rHeld_any nd sd ld _ _ vd).mono ?_
  rintro e w5 ⟨rfl, hb5⟩
  go_wp2_with fail
  go_ret
  exact ⟨rfl, below_on (below_on (below_on (below_on hb1 hb2) hb3) hb4) hb5⟩

set_option maxHeartbeats 400000 in
theorem rScale_any (a m d : Int) (a0 : -9223372036854775808 ≤ a) (a1 : a < 9223372036854775808) (m0 : 0 ≤ m) (m1 : m < 9223372036854775808) (d0 : 1 ≤ d) (d1 : d < 9223372036854775808) (w : World) :
    Calls Try.prog 23 #[.int .i64 a, .int .i64 m, .int .i64 d] w fun e w' => e = .returned (.int .i64 (rheld (a * m / d))) ∧ Below w.heap.size w w' := by
  have hp := prod_ex a m a0 a1 (by omega) m1
  have k1 : decide (m < 0) = false := by simp; omega
  have k2 : decide (d < 1) = false := by simp; omega
  go_enter Try.func23, Try.ntmps23
  go_wp2_with fail
  refine (Of_any a a0 a1 _).mono ?_
  rintro e w1 ⟨na, sa, la, rfl, va, hb1⟩
  go_wp2_with fail
  refine (Of_any m (by omega) m1 _).mono ?_
  rintro e w2 ⟨nb, sb, lb, rfl, vb, hb2⟩
  go_wp2_with fail
  refine (Times_any na nb sa sb la lb a m _ (va.later hb2) vb (va.len8 (by omega) (by omega)) (vb.len8 (by omega) (by omega))).mono ?_
  rintro e w3 ⟨nc, sc, lc, rfl, vc, hb3⟩
  go_wp2_with fail
  refine (Over_any nc sc lc _ d _ vc (vc.len8 (by omega) (by omega)) d0 d1).mono ?_
  rintro e w4 ⟨nd, sd, ld, rfl, vd, hb4⟩
  go_wp2_with fail
  refine (rHeld_any nd sd ld _ _ vd).mono ?_
  rintro e w5 ⟨rfl, hb5⟩
  go_wp2_with fail
  go_ret
  exact ⟨rfl, below_on (below_on (below_on (below_on hb1 hb2) hb3) hb4) hb5⟩
theorem rScale_none (a m d : Int) (h : m < 0 ∨ d < 1) (w : World) :
    Calls Try.prog 23 #[.int .i64 a, .int .i64 m, .int .i64 d] w fun e w' => e = .returned (.int .i64 0) ∧ Below w.heap.size w w' := by
  by_cases k : m < 0
  · clear h
    go_enter Try.func23, Try.ntmps23
    go_wp2_with fail
    go_ret
    exact ⟨rfl, Below.refl _ _⟩
  · have k2 : d < 1 := by omega
    clear h
    go_enter Try.func23, Try.ntmps23
    go_wp2_with fail
    go_ret
    exact ⟨rfl, Below.refl _ _⟩

set_option maxHeartbeats 400000 in
theorem rWhole_any (a : Int) (a0 : -9223372036854775808 ≤ a) (a1 : a < 9223372036854775808) (w : World) :
    Calls Try.prog 29 #[.int .i64 a] w fun e w' => e = .returned (.int .i64 (rheld (a * 1000000))) ∧ Below w.heap.size w w' := by
  go_enter Try.func29, Try.ntmps29
  go_wp2_with fail
  refine (Of_any a a0 a1 _).mono ?_
  rintro e w1 ⟨na, sa, la, rfl, va, hb1⟩
  go_wp2_with fail
  refine (Of_any 1000000 (by decide) (by decide) _).mono ?_
  rintro e w2 ⟨nb, sb, lb, rfl, vb, hb2⟩
  go_wp2_with fail
  refine (Times_any na nb sa sb la lb a 1000000 _ (va.later hb2) vb (va.len8 (by omega) (by omega)) (vb.len8 (by omega) (by omega))).mono ?_
  rintro e w3 ⟨nc, sc, lc, rfl, vc, hb3⟩
  go_wp2_with fail
  refine (rHeld_any nc sc lc _ _ vc).mono ?_
  rintro e w5 ⟨rfl, hb5⟩
  go_wp2_with fail
  go_ret
  exact ⟨rfl, below_on (below_on (below_on hb1 hb2) hb3) hb5⟩

set_option maxHeartbeats 400000 in
theorem rFloor_any (a : Int) (a0 : -9223372036854775808 ≤ a) (a1 : a < 9223372036854775808) (w : World) :
    Calls Try.prog 25 #[.int .i64 a] w fun e w' => e = .returned (.int .i64 (rheld (a / 1000000 * 1000000))) ∧ Below w.heap.size w w' := by
  go_enter Try.func25, Try.ntmps25
  go_wp2_with fail
  refine (Of_any a a0 a1 _).mono ?_
  rintro e w1 ⟨na, sa, la, rfl, va, hb1⟩
  go_wp2_with fail
  refine (Over_any na sa la _ 1000000 _ va (va.len8 (by omega) (by omega)) (by decide) (by decide)).mono ?_
  rintro e w2 ⟨nd, sd, ld, rfl, vd, hb2⟩
  go_wp2_with fail
  refine (Of_any 1000000 (by decide) (by decide) _).mono ?_
  rintro e w3 ⟨nb, sb, lb, rfl, vb, hb3⟩
  go_wp2_with fail
  refine (Times_any nd nb sd sb ld lb (a / 1000000) 1000000 _ (vd.later hb3) vb (vd.len8 (by omega) (by omega)) (vb.len8 (by omega) (by omega))).mono ?_
  rintro e w4 ⟨nc, sc, lc, rfl, vc, hb4⟩
  go_wp2_with fail
  refine (rHeld_any nc sc lc _ _ vc).mono ?_
  rintro e w5 ⟨rfl, hb5⟩
  go_wp2_with fail
  go_ret
  exact ⟨rfl, below_on (below_on (below_on (below_on hb1 hb2) hb3) hb4) hb5⟩

set_option maxHeartbeats 400000 in
theorem rCeil_any (a : Int) (a0 : -9223372036854775808 ≤ a) (a1 : a < 9223372036854775808) (w : World) :
    Calls Try.prog 27 #[.int .i64 a] w fun e w' => e = .returned (.int .i64 (rheld (-((-a) / 1000000) * 1000000))) ∧ Below w.heap.size w w' := by
  go_enter Try.func27, Try.ntmps27
  go_wp2_with fail
  refine (Of_any a a0 a1 _).mono ?_
  rintro e w1 ⟨na, sa, la, rfl, va, hb1⟩
  go_wp2_with fail
  refine (Minus_any na sa la a _ va).mono ?_
  rintro e w2 ⟨nm, sm, lm, rfl, vm, hb2⟩
  go_wp2_with fail
  refine (Over_any nm sm lm (-a) 1000000 _ vm (vm.len8 (by omega) (by omega)) (by decide) (by decide)).mono ?_
  rintro e w3 ⟨nd, sd, ld, rfl, vd, hb3⟩
  go_wp2_with fail
  refine (Minus_any nd sd ld _ _ vd).mono ?_
  rintro e w4 ⟨ne, se, le, rfl, ve, hb4⟩
  go_wp2_with fail
  refine (Of_any 1000000 (by decide) (by decide) _).mono ?_
  rintro e w5 ⟨nb, sb, lb, rfl, vb, hb5⟩
  go_wp2_with fail
  refine (Times_any ne nb se sb le lb (-((-a) / 1000000)) 1000000 _ (ve.later hb5) vb (ve.len8 (by omega) (by omega)) (vb.len8 (by omega) (by omega))).mono ?_
  rintro e w6 ⟨nc, sc, lc, rfl, vc, hb6⟩
  go_wp2_with fail
  refine (rHeld_any nc sc lc _ _ vc).mono ?_
  rintro e w7 ⟨rfl, hb7⟩
  go_wp2_with fail
  go_ret
  exact ⟨rfl, below_on (below_on (below_on (below_on (below_on (below_on hb1 hb2) hb3) hb4) hb5) hb6) hb7⟩

theorem rheld_bd (n : Int) : -9223372036854775808 ≤ rheld n ∧ rheld n < 9223372036854775808 := by unfold rheld; split <;> (try split) <;> omega
theorem rheld_in (n : Int) (h0 : -9223372036854775808 ≤ n) (h1 : n < 9223372036854775808) : rheld n = n := by unfold rheld; rw [if_neg (by omega), if_neg (by omega)]
set_option maxHeartbeats 400000 in
theorem rCount_any (a : Int) (a0 : -9223372036854775808 ≤ a) (a1 : a < 9223372036854775808) (w : World) :
    Calls Try.prog 31 #[.int .i64 a] w fun e w' => e = .returned (.int .i64 (rheld (-((-a) / 1000000) * 1000000) / 1000000)) ∧ Below w.heap.size w w' := by
  have hb := rheld_bd (-((-a) / 1000000) * 1000000)
  have e1 := rheld_in (rheld (-((-a) / 1000000) * 1000000) / 1000000) (by omega) (by omega)
  have E1 : Hid _ := e1
  clear e1
  go_enter Try.func31, Try.ntmps31
  go_wp2_with fail
  refine (rCeil_any a a0 a1 _).mono ?_
  generalize hx : rheld (-((-a) / 1000000) * 1000000) = x at *
  have HX : Hid _ := hx
  clear hx
  rintro e w1 ⟨rfl, hb1⟩
  go_wp2_with fail
  refine (Of_any x hb.1 hb.2 _).mono ?_
  rintro e w2 ⟨na, sa, la, rfl, va, hb2⟩
  go_wp2_with fail
  refine (Over_any na sa la x 1000000 _ va (va.len8 (by omega) (by omega)) (by decide) (by decide)).mono ?_
  rintro e w3 ⟨nd, sd, ld, rfl, vd, hb3⟩
  go_wp2_with fail
  refine (rHeld_any nd sd ld _ _ vd).mono ?_
  rw [E1.out]
  rintro e w4 ⟨rfl, hb4⟩
  go_wp2_with fail
  go_ret
  exact ⟨by rw [HX.out]; rfl, below_on (below_on (below_on hb1 hb2) hb3) hb4⟩
end Go.Proofs.Ytbmdocdcinfbfaa

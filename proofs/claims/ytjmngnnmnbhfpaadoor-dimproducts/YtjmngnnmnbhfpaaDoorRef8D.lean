/- The document's Mul, Scale, Floor, Ceil, Whole, Count, Mean and Div (package capstanref01). -/
import Derived.Test.YtjmngnnmnbhfpaaDoorRef7D
import Derived.Test.YtjmngnnmnbhfpaaDoorRef5D
namespace Go.Proofs.YtjmngnnmnbhfpaaDoor
open Go.RowKit Go.Deep

theorem pw8 : pw 8 = 340282366920938463463374607431768211456 := by decide
theorem BigV.len8 {w : World} {neg : Bool} {s : Value} {l : List Int} {n : Int} (h : BigV w neg s l n) (h0 : -340282366920938463463374607431768211456 < n) (h1 : n < 340282366920938463463374607431768211456) : l.length ≤ 400 := by
  have := h.len 8 (by rw [pw8]; omega)
  omega
theorem prod_ex (a b : Int) (a0 : -9223372036854775808 ≤ a) (a1 : a < 9223372036854775808) (b0 : -9223372036854775808 ≤ b) (b1 : b < 9223372036854775808) :
    -85070591730234615865843651857942052864 ≤ a * b ∧ a * b ≤ 85070591730234615865843651857942052864 := by
  have h1 : (a.natAbs * b.natAbs : Nat) ≤ 9223372036854775808 * 9223372036854775808 := Nat.mul_le_mul (by omega) (by omega)
  rw [← Int.natAbs_mul] at h1
  omega

set_option maxHeartbeats 400000 in
theorem rScale_any (a m d : Int) (a0 : -9223372036854775808 ≤ a) (a1 : a < 9223372036854775808) (m0 : 0 ≤ m) (m1 : m < 9223372036854775808) (d0 : 1 ≤ d) (d1 : d < 9223372036854775808) (w : World) :
    Calls Tryd.prog 36 #[.int .i64 a, .int .i64 m, .int .i64 d] w fun e w' => e = .returned (.int .i64 (rheld (a * m / d))) ∧ Below w.heap.size w w' := by
  have hp := prod_ex a m a0 a1 (by omega) m1
  have k1 : decide (m < 0) = false := by simp; omega
  have k2 : decide (d < 1) = false := by simp; omega
  go_enter Tryd.func36, Tryd.ntmps36
  go_wp2_with fail
  refine (Of_any a a0 a1 _).mono ?_
  rintro e w1 ⟨na, sa, la, rfl, va, hb1⟩
  go_wp2_with fail
  refine (Of_any m (by omega) m1 _).mono ?_
  rintro e w2 ⟨nb, sb, lb, rfl, vb, hb2⟩
  go_wp2_with fail
  refine (Times_any na nb sa sb la lb a m _ (va.later hb2) vb (va.len8 (by omega) (by omega)) (vb.len8 (by omega) (by omega))).mono ?_
  rintro e w3 ⟨nc, sc, lc, rfl, vc, hb3⟩
  go_wp2_with fail
  refine (Over_any nc sc lc _ d _ vc (vc.len8 (by omega) (by omega)) d0 d1).mono ?_
  rintro e w4 ⟨nd, sd, ld, rfl, vd, hb4⟩
  go_wp2_with fail
  refine (rHeld_any nd sd ld _ _ vd).mono ?_
  rintro e w5 ⟨rfl, hb5⟩
  go_wp2_with fail
  go_ret
  exact ⟨rfl, below_on (below_on (below_on (below_on hb1 hb2) hb3) hb4) hb5⟩
theorem rScale_none (a m d : Int) (h : m < 0 ∨ d < 1) (w : World) :
    Calls Tryd.prog 36 #[.int .i64 a, .int .i64 m, .int .i64 d] w fun e w' => e = .returned (.int .i64 0) ∧ Below w.heap.size w w' := by
  by_cases k : m < 0
  · clear h
    go_enter Tryd.func36, Tryd.ntmps36
    go_wp2_with fail
    go_ret
    exact ⟨rfl, Below.refl _ _⟩
  · have k2 : d < 1 := by omega
    clear h
    go_enter Tryd.func36, Tryd.ntmps36
    go_wp2_with fail
    go_ret
    exact ⟨rfl, Below.refl _ _⟩

end Go.Proofs.YtjmngnnmnbhfpaaDoor

/- The exported functions of package fix that multiply and divide (Mul, Div, Scale, Whole, Floor, Ceil, Count): each answers the exact number, rounded as it is told and held; of a division by words that it goes well is asked apart (DivOK). -/
import Derived.Test.YtccgbkafcbfcgaaWide2
namespace Go.Proofs.Ytccgbkafcbfcgaa
open Go.RowKit

set_option maxHeartbeats 400000 in
theorem Whole_any (n : Int) (n0 : -9223372036854775808 ≤ n) (n1 : n < 9223372036854775808) (w : World) :
    Calls Try.prog 49 #[.int .i64 n] w fun e w' => e = .returned (.int .i64 (held (n * 1000000))) ∧ Below w.heap.size w w' := by
  go_enter Try.func49, Try.ntmps49
  go_wp2_with fail
  refine (times_any n 1000000 n0 n1 (by decide) (by decide) _).mono ?_
  rintro e w1 ⟨lo1, hi1, rfl, r1, hb1⟩
  go_wp2_with fail
  refine (hold_any lo1 hi1 _ r1 _).mono ?_
  rintro e w3 ⟨rfl, hb3⟩
  go_wp2_with fail
  go_ret
  exact ⟨rfl, below_two hb1 hb3⟩

/-- Go's quotient and rest (cut toward 0), as the quotient rounded down. -/
theorem cut_down (a : Int) : (a.tmod 1000000 < 0 → a.tdiv 1000000 - 1 = a / 1000000) ∧ (¬ a.tmod 1000000 < 0 → a.tdiv 1000000 = a / 1000000) ∧ (0 < a.tmod 1000000 → a.tdiv 1000000 + 1 = -((-a) / 1000000)) ∧ (¬ 0 < a.tmod 1000000 → a.tdiv 1000000 = -((-a) / 1000000)) := by
  have h1 := Int.tdiv_mul_add_tmod a 1000000
  by_cases h : 0 ≤ a
  · have h2 := Int.tmod_nonneg 1000000 h
    have h3 := Int.tmod_lt_of_pos a (show (0 : Int) < 1000000 by decide)
    omega
  · have e1 : a.tmod 1000000 = -((-a).tmod 1000000) := by rw [Int.neg_tmod, Int.neg_neg]
    have h2 := Int.tmod_nonneg 1000000 (show 0 ≤ -a by omega)
    have h3 := Int.tmod_lt_of_pos (-a) (show (0 : Int) < 1000000 by decide)
    omega

theorem fl_awake : held (fl (-1 * 1000000) 3000000) = -1 := by decide
theorem mul_awake : held (1500000 * -1 / 1000000) = -2 := by decide
theorem count_awake : held (-((-1) / 1000000) * 1000000) / 1000000 = 1 := by decide
end Go.Proofs.Ytccgbkafcbfcgaa

/- The exported functions of package fix that call no division (Add, Sub, Neg, Abs): each answers the exact number, held at the ends of int64. -/
import Derived.Test.YtccgbkafcbfcgaaWide1
namespace Go.Proofs.Ytccgbkafcbfcgaa
open Go.RowKit

set_option maxHeartbeats 400000 in
theorem Sub_any (a b : Int) (a0 : -9223372036854775808 ≤ a) (a1 : a < 9223372036854775808) (b0 : -9223372036854775808 ≤ b) (b1 : b < 9223372036854775808) (w : World) :
    Calls Try.prog 59 #[.int .i64 a, .int .i64 b] w fun e w' => e = .returned (.int .i64 (held (a - b))) ∧ Below w.heap.size w w' := by
  go_enter Try.func59, Try.ntmps59
  go_wp2_with fail
  refine (widen_any a a0 a1 _).mono ?_
  rintro e w1 ⟨lo1, hi1, rfl, r1, hb1⟩
  go_wp2_with fail
  refine (widen_any b b0 b1 _).mono ?_
  rintro e w2 ⟨lo2, hi2, rfl, r2, hb2⟩
  go_wp2_with fail
  refine (minus_any lo1 hi1 lo2 hi2 a b r1 r2 (by omega) (by omega) _).mono ?_
  rintro e w3 ⟨lo3, hi3, rfl, r3, hb3⟩
  go_wp2_with fail
  refine (hold_any lo3 hi3 _ r3 _).mono ?_
  rintro e w4 ⟨rfl, hb4⟩
  go_wp2_with fail
  go_ret
  exact ⟨rfl, below_two (below_two (below_two hb1 hb2) hb3) hb4⟩

end Go.Proofs.Ytccgbkafcbfcgaa

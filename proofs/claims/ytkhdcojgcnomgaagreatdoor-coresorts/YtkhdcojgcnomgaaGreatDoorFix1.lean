/- The exported functions of package fix that call no division (Add, Sub, Neg, Abs): each answers the exact number, held at the ends of int64. -/
import Derived.Test.YtkhdcojgcnomgaaGreatDoorWide1
namespace Go.Proofs.YtkhdcojgcnomgaaGreatDoor
open Go.RowKit

set_option maxHeartbeats 400000 in
theorem Add_any (a b : Int) (a0 : -9223372036854775808 ≤ a) (a1 : a < 9223372036854775808) (b0 : -9223372036854775808 ≤ b) (b1 : b < 9223372036854775808) (w : World) :
    Calls Tryz.prog 90 #[.int .i64 a, .int .i64 b] w fun e w' => e = .returned (.int .i64 (held (a + b))) ∧ Below w.heap.size w w' := by
  go_enter Tryz.func90, Tryz.ntmps90
  go_wp2_with fail
  refine (widen_any a a0 a1 _).mono ?_
  rintro e w1 ⟨lo1, hi1, rfl, r1, hb1⟩
  go_wp2_with fail
  refine (widen_any b b0 b1 _).mono ?_
  rintro e w2 ⟨lo2, hi2, rfl, r2, hb2⟩
  go_wp2_with fail
  refine (plus_any lo1 hi1 lo2 hi2 a b r1 r2 (by omega) (by omega) _).mono ?_
  rintro e w3 ⟨lo3, hi3, rfl, r3, hb3⟩
  go_wp2_with fail
  refine (hold_any lo3 hi3 _ r3 _).mono ?_
  rintro e w4 ⟨rfl, hb4⟩
  go_wp2_with fail
  go_ret
  exact ⟨rfl, below_two (below_two (below_two hb1 hb2) hb3) hb4⟩

set_option maxHeartbeats 400000 in
theorem Sub_any (a b : Int) (a0 : -9223372036854775808 ≤ a) (a1 : a < 9223372036854775808) (b0 : -9223372036854775808 ≤ b) (b1 : b < 9223372036854775808) (w : World) :
    Calls Tryz.prog 91 #[.int .i64 a, .int .i64 b] w fun e w' => e = .returned (.int .i64 (held (a - b))) ∧ Below w.heap.size w w' := by
  go_enter Tryz.func91, Tryz.ntmps91
  go_wp2_with fail
  refine (widen_any a a0 a1 _).mono ?_
  rintro e w1 ⟨lo1, hi1, rfl, r1, hb1⟩
  go_wp2_with fail
  refine (widen_any b b0 b1 _).mono ?_
  rintro e w2 ⟨lo2, hi2, rfl, r2, hb2⟩
  go_wp2_with fail
  refine (minus_any lo1 hi1 lo2 hi2 a b r1 r2 (by omega) (by omega) _).mono ?_
  rintro e w3 ⟨lo3, hi3, rfl, r3, hb3⟩
  go_wp2_with fail
  refine (hold_any lo3 hi3 _ r3 _).mono ?_
  rintro e w4 ⟨rfl, hb4⟩
  go_wp2_with fail
  go_ret
  exact ⟨rfl, below_two (below_two (below_two hb1 hb2) hb3) hb4⟩

set_option maxHeartbeats 400000 in
theorem Neg_any (a : Int) (a0 : -9223372036854775808 ≤ a) (a1 : a < 9223372036854775808) (w : World) :
    Calls Tryz.prog 82 #[.int .i64 a] w fun e w' => e = .returned (.int .i64 (held (-a))) ∧ Below w.heap.size w w' := by
  go_enter Tryz.func82, Tryz.ntmps82
  go_wp2_with fail
  refine (Sub_any 0 a (by decide) (by decide) a0 a1 _).mono ?_
  rintro e w1 ⟨rfl, hb1⟩
  go_wp2_with fail
  go_ret
  exact ⟨rfl, hb1⟩

set_option maxHeartbeats 400000 in
theorem Abs_any (a : Int) (a0 : -9223372036854775808 ≤ a) (a1 : a < 9223372036854775808) (w : World) :
    Calls Tryz.prog 84 #[.int .i64 a] w fun e w' => e = .returned (.int .i64 (held a.natAbs)) ∧ Below w.heap.size w w' := by
  by_cases h : a < 0
  · go_enter Tryz.func84, Tryz.ntmps84
    go_wp2_with fail
    refine (Neg_any a a0 a1 _).mono ?_
    rintro e w1 ⟨rfl, hb1⟩
    go_wp2_with fail
    go_ret
    exact ⟨ret_int (by rw [show ((a.natAbs : Nat) : Int) = -a by omega]), hb1⟩
  · have e1 : held a.natAbs = a := by rw [show ((a.natAbs : Nat) : Int) = a by omega]; exact held_in a a0 a1
    rw [e1]
    go_enter Tryz.func84, Tryz.ntmps84
    go_wp2_with fail
    go_ret
    exact ⟨rfl, Below.refl _ _⟩
end Go.Proofs.YtkhdcojgcnomgaaGreatDoor

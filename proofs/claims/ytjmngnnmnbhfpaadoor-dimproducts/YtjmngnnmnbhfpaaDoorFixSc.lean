/- Scale of package fix: the exact number, rounded down and held; of a division by words that it goes well is asked apart (DivOK). -/
import Derived.Test.YtjmngnnmnbhfpaaDoorWide2
namespace Go.Proofs.YtjmngnnmnbhfpaaDoor
open Go.RowKit

set_option maxHeartbeats 400000 in
theorem Scale_of (a m d : Int) (a0 : -9223372036854775808 ≤ a) (a1 : a < 9223372036854775808) (m0 : 0 ≤ m) (m1 : m < 9223372036854775808) (d0 : 1 ≤ d) (d1 : d < 9223372036854775808) (hD : DivOK (a * m) d) (w : World) :
    Calls Tryd.prog 35 #[.int .i64 a, .int .i64 m, .int .i64 d] w fun e w' => e = .returned (.int .i64 (held (a * m / d))) ∧ Below w.heap.size w w' := by
  have hp := prod_bd a m a0 a1 (by omega) m1
  have e1 : fl (a * m) d = a * m / d := by unfold fl; rw [if_pos (by omega)]
  have E1 : Hid _ := e1
  clear e1
  have k1 : decide (m < 0) = false := by simp; omega
  have k2 : decide (d < 1) = false := by simp; omega
  go_enter Tryd.func35, Tryd.ntmps35
  go_wp2_with fail
  refine (times_any a m a0 a1 (by omega) m1 _).mono ?_
  rintro e w1 ⟨lo1, hi1, rfl, r1, hb1⟩
  go_wp2_with fail
  refine (over_of lo1 hi1 _ d d r1 (by omega) (by omega) d1 (by omega) (by omega) hD _).mono ?_
  rintro e w2 ⟨lo2, hi2, rfl, r2, hb2⟩
  go_wp2_with fail
  refine (hold_any lo2 hi2 _ r2 _).mono ?_
  rintro e w3 ⟨rfl, hb3⟩
  go_wp2_with fail
  go_ret
  exact ⟨ret_int (by rw [E1.out]), below_two (below_two hb1 hb2) hb3⟩
theorem Scale_none (a m d : Int) (h : m < 0 ∨ d < 1) (w : World) :
    Calls Tryd.prog 35 #[.int .i64 a, .int .i64 m, .int .i64 d] w fun e w' => e = .returned (.int .i64 0) ∧ Below w.heap.size w w' := by
  by_cases k : m < 0
  · clear h
    go_enter Tryd.func35, Tryd.ntmps35
    go_wp2_with fail
    go_ret
    exact ⟨rfl, Below.refl _ _⟩
  · have k2 : d < 1 := by omega
    clear h
    go_enter Tryd.func35, Tryd.ntmps35
    go_wp2_with fail
    go_ret
    exact ⟨rfl, Below.refl _ _⟩

end Go.Proofs.YtjmngnnmnbhfpaaDoor

/- fix.Floor. -/
import Derived.Test.YtkhdcojgcnomgaaGreatDoorFix2
namespace Go.Proofs.YtkhdcojgcnomgaaGreatDoor
open Go.RowKit

set_option maxHeartbeats 400000 in
theorem Floor_any (a : Int) (a0 : -9223372036854775808 ≤ a) (a1 : a < 9223372036854775808) (w : World) :
    Calls Tryz.prog 86 #[.int .i64 a] w fun e w' => e = .returned (.int .i64 (held (a / 1000000 * 1000000))) ∧ Below w.heap.size w w' := by
  go_enter Tryz.func86, Tryz.ntmps86
  go_wp2_with fail
  refine (wholes_any a a0 a1 _).mono ?_
  rintro e w1 ⟨rfl, hb1⟩
  go_wp2_with fail
  refine (Whole_any _ (by omega) (by omega) _).mono ?_
  rintro e w3 ⟨rfl, hb3⟩
  go_wp2_with fail
  go_ret
  exact ⟨rfl, below_two hb1 hb3⟩

end Go.Proofs.YtkhdcojgcnomgaaGreatDoor

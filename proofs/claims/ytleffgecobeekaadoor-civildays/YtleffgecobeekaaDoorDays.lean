/- The statement CivilDays: the walk of her Go text, out of the contracts of package civil and of the document's answer. -/
import Derived.Test.YtleffgecobeekaaDoorCivF
namespace Go.Proofs.YtleffgecobeekaaDoor
open Go.RowKit

set_option maxHeartbeats 800000 in
theorem civilDays_walk (y m : Int) (_ : (Lit.int .i64 y).wf = true) (_ : (Lit.int .i64 m).wf = true) (w : World) (hL : LenAt w) :
    Calls Tryd.prog 5 #[.int .i64 y, .int .i64 m] w fun e w' => e = .returned (.bool true) ∧ Below w.heap.size w w' := by
  have h1 := Leap_any y
  have h2 := rLeap_any y
  have h3 := Days_any y m
  have h4 := rDays_any y m
  generalize leap y = b at *
  generalize mdays y m = D at *
  have bb : (b == b) = true := by simp
  go_enter Tryd.func5, Tryd.ntmps5
  go_wp2_with fail
  refine (awake_any _ hL).mono ?_
  rintro e w1 ⟨rfl, hb1⟩
  have hL := hL.later hb1
  go_wp2_with fail
  refine (h1 _).mono ?_
  rintro e w2 ⟨rfl, rfl⟩
  go_wp2_with fail
  refine (h2 _).mono ?_
  rintro e w2 ⟨rfl, rfl⟩
  go_wp2_with fail
  refine (h3 _ hL).mono ?_
  rintro e w2 ⟨rfl, rfl⟩
  go_wp2_with fail
  refine (h4 _).mono ?_
  rintro e w2 ⟨rfl, rfl⟩
  go_wp2_with fail
  go_ret
  exact ⟨rfl, hb1⟩
end Go.Proofs.YtleffgecobeekaaDoor

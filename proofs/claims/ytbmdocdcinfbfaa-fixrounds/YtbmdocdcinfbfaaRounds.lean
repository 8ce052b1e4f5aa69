/- The statement FixRounds: the walk of her Go text, out of the contracts of package fix and of the document's arithmetic. -/
import Derived.Test.YtbmdocdcinfbfaaFix3
import Derived.Test.YtbmdocdcinfbfaaRef8
import Derived.OpenShut
namespace Go.Proofs.Ytbmdocdcinfbfaa
open Go.RowKit

theorem rheld_eq (n : Int) : rheld n = held n := rfl

set_option maxHeartbeats 1000000 in
set_option maxRecDepth 100000 in
theorem fixRounds_walk (a : Int) (ha : (Lit.int .i64 a).wf = true) (w : World) :
    Calls Try.prog 5 #[.int .i64 a] w fun e w' => e = .returned (.bool true) ∧ Below w.heap.size w w' := by
  have a0 := (bounds_i64 ha).1
  have a1 : a < 9223372036854775808 := by have := bounds_i64 ha; omega
  clear ha
  go_enter Try.func5, Try.ntmps5
  go_wp2_with fail
  refine (awake_any _).mono ?_
  rintro e w1 ⟨rfl, hb1⟩
  go_wp2_with fail
  refine (Floor_any a a0 a1 _).mono ?_
  rintro e w2 ⟨rfl, hb2⟩
  go_wp2_with fail
  refine (rFloor_any a a0 a1 _).mono ?_
  rw [rheld_eq]
  rintro e w3 ⟨rfl, hb3⟩
  go_wp2_with fail
  refine (Ceil_any a a0 a1 _).mono ?_
  rintro e w4 ⟨rfl, hb4⟩
  go_wp2_with fail
  refine (rCeil_any a a0 a1 _).mono ?_
  rw [rheld_eq]
  rintro e w5 ⟨rfl, hb5⟩
  go_wp2_with fail
  refine (Whole_any a a0 a1 _).mono ?_
  rintro e w6 ⟨rfl, hb6⟩
  go_wp2_with fail
  refine (rWhole_any a a0 a1 _).mono ?_
  rw [rheld_eq]
  rintro e w7 ⟨rfl, hb7⟩
  go_wp2_with fail
  refine (Count_any a a0 a1 _).mono ?_
  rintro e w8 ⟨rfl, hb8⟩
  go_wp2_with fail
  refine (rCount_any a a0 a1 _).mono ?_
  rw [rheld_eq]
  rintro e w9 ⟨rfl, hb9⟩
  go_wp2_with fail
  go_ret
  exact ⟨rfl, below_two (below_two (below_two (below_two (below_two (below_two (below_two (below_two (hb1) hb2) hb3) hb4) hb5) hb6) hb7) hb8) hb9⟩
end Go.Proofs.Ytbmdocdcinfbfaa

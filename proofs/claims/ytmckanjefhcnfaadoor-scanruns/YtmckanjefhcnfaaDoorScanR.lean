/- ScanRuns: the walk. -/
import Derived.Test.YtmckanjefhcnfaaDoorScW
import Derived.Test.YtmckanjefhcnfaaDoorScT
namespace Go.Proofs.YtmckanjefhcnfaaDoor
open Go.RowKit

set_option maxHeartbeats 1000000 in
theorem scanRuns_walk (s : ByteArray) (x c : Int) (hz : s.size ≤ 140737488355328) (_hx : (Lit.int .i64 x).wf = true) (_hc : (Lit.int .i64 c).wf = true) (w : World) (hT : TabsAt w) : Calls Tryd.prog 6 #[.string s, .int .i64 x, .int .i64 c] w fun e w' => e = .returned (.bool true) ∧ Below w.heap.size w w' := by
  have A := awake_c w hT
  have P := fun c w' => run_c s x c (by omega) w'
  have R := fun c w' => rRun_c s x c (by omega) w'
  clear hT
  go_enter Tryd.func6, Tryd.ntmps6
  go_wp2_with (first
    | (go_at_call 9; refine A.mono ?_; rintro e w1 ⟨rfl, hb1⟩; clear A)
    | (go_at_call 18; refine (R _ _).mono ?_; rintro e w2 ⟨rfl, rfl⟩)
    | (go_at_call 17; refine (P _ _).mono ?_; rintro e w3 ⟨rfl, hb3⟩; replace hb1 := below_on hb1 hb3 hb1.size; clear hb3))
  go_ret
  exact ⟨rfl, hb1⟩
end Go.Proofs.YtmckanjefhcnfaaDoor

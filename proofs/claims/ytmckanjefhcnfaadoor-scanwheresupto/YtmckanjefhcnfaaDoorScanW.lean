/- ScanWheres: the walk. -/
import Derived.Test.YtmckanjefhcnfaaDoorScV
namespace Go.Proofs.YtmckanjefhcnfaaDoor
open Go.RowKit

set_option maxHeartbeats 1000000 in
theorem scanWheres_walk (s : ByteArray) (x : Int) (hz : s.size ≤ 1048576) (_hx : (Lit.int .i64 x).wf = true) (w : World) (hT : TabsAt w) : Calls Tryd.prog 4 #[.string s, .int .i64 x] w fun e w' => e = .returned (.bool true) ∧ Below w.heap.size w w' := by
  have A := awake_c w hT
  have P := fun w' hb => where_c s x (by omega) w' (hT.next (w' := w') hb)
  have R := fun w' => rWhere_c s x hz w'
  generalize whrT s x = y at *
  obtain ⟨a, b, c⟩ := y
  clear hT
  go_enter Tryd.func4, Tryd.ntmps4
  go_wp2_with fail
  refine A.mono ?_
  rintro e w1 ⟨rfl, b1⟩
  clear A
  go_wp2_with fail
  refine (P _ b1).mono ?_
  rintro e w2 ⟨rfl, b2⟩
  replace b2 := below_on b1 b2 b1.size
  clear P b1
  go_wp2_with fail
  refine (R _).mono ?_
  rintro e w3 ⟨rfl, b3⟩
  replace b3 := below_on b2 b3 b2.size
  clear R b2
  go_wp2_with fail
  all_goals go_ret
  all_goals exact ⟨rfl, b3⟩
end Go.Proofs.YtmckanjefhcnfaaDoor

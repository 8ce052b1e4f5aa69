/- The library's strings.Clone. -/
import Derived.Test.YtpkknifbocfeaaaGreatDoorShelfC
import Derived.Test.YtpkknifbocfeaaaGreatDoorMgB
namespace Go.Proofs.YtpkknifbocfeaaaGreatDoor
open Go.RowKit

theorem strClone_c (s : ByteArray) (w : World) (hs : s.size ≤ 140737488355328) : Calls Tryz.prog 31 #[.string s] w fun e w' => e = .returned (.string s) ∧ Below w.heap.size w w' := by
  have C := fun wx => Go.Proofs.Tryz.stringslite_Clone s wx (by omega)
  go_enter Tryz.func31, Tryz.ntmps31
  go_wp2_with fail
  refine Calls.mono (C _) ?_
  rintro e w1 ⟨rfl, b⟩
  go_wp2_with fail
  go_ret
  exact ⟨rfl, b⟩
end Go.Proofs.YtpkknifbocfeaaaGreatDoor

/- ScanClasses: the walk. -/
import Derived.Test.YtmckanjefhcnfaaDoorScW
import Derived.OpenShut
namespace Go.Proofs.YtmckanjefhcnfaaDoor
open Go.RowKit

set_option maxHeartbeats 1000000 in
theorem scanClasses_walk (r c : Int) (hr : (Lit.int .i32 r).wf = true) (_hc : (Lit.int .i64 c).wf = true) (w : World) (hT : TabsAt w) : Calls Tryd.prog 5 #[.int .i32 r, .int .i64 c] w fun e w' => e = .returned (.bool true) ∧ Below w.heap.size w w' := by
  have A := awake_c w hT
  have hb := bounds_i32 hr
  have hw : IntKind.i64.wrap r = r := by rw [IntKind.wrap_i64]; omega
  clear hT hr
  go_enter Tryd.func5, Tryd.ntmps5
  go_wp2_with (go_at_call 9; refine A.mono ?_; rintro e w1 ⟨rfl, hb1⟩; clear A)
  go_loop [5] (fun s5 => ∃ k : Int, s5 = .int .i64 k ∧ 0 ≤ k ∧ k ≤ 6) (fun s5 => match s5 with | .int _ k => (6 - k).toNat | _ => 0)
  case atStart => exact ⟨0, rfl, by omega, by omega⟩
  case round =>
    obtain ⟨k, rfl, h0, h6⟩ := hrel
    by_cases hk : k ≤ 5
    · have I := is_c r k w1
      have R := rIs_c r k w1
      generalize isC r k = b at *
      go_wp2_with (first
        | (go_at_call 15; refine I.mono ?_; rintro e w2 ⟨rfl, rfl⟩)
        | (go_at_call 16; refine R.mono ?_; rintro e w2 ⟨rfl, rfl⟩))
      go_round
      case rel => exact ⟨k + 1, rfl, by omega, by omega⟩
      case measure => simp only []; omega
    · have I := is_c r c w1
      have R := rIs_c r c w1
      generalize isC r c = b at *
      go_wp2_with (first
        | (go_at_call 15; refine I.mono ?_; rintro e w2 ⟨rfl, rfl⟩)
        | (go_at_call 16; refine R.mono ?_; rintro e w2 ⟨rfl, rfl⟩))
      go_ret
      exact ⟨by first | rfl | (simp; done), hb1⟩
end Go.Proofs.YtmckanjefhcnfaaDoor

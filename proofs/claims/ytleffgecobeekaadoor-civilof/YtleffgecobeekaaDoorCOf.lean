/- The statement CivilOf: the walk of her Go text, out of the contracts of package civil and of the document's answer. -/
import Derived.Test.YtleffgecobeekaaDoorCivF
import Derived.Test.YtleffgecobeekaaDoorRefO
import Derived.ProofKit
import Derived.OpenShut
namespace Go.Proofs.YtleffgecobeekaaDoor
open Go.RowKit

set_option maxHeartbeats 800000 in
theorem civilOf_walk (t : Int) (wf : (Lit.int .i64 t).wf = true) (w : World) (hL : LenAt w) :
    Calls Tryd.prog 3 #[.int .i64 t] w fun e w' => e = .returned (.bool true) ∧ Below w.heap.size w w' := by
  have hb := bounds_i64 wf
  have hr := fun wx => rOf_any t (by omega) (by omega) wx
  go_enter Tryd.func3, Tryd.ntmps3
  go_wp2_with fail
  refine (awake_any _ hL).mono ?_
  rintro e w1 ⟨rfl, hb1⟩
  have hL := hL.later hb1
  go_wp2_with fail
  refine (Of_any t (by omega) (by omega) _ hL).mono ?_
  rintro e w2 ⟨c, rfl, hat, _, _, hb2⟩
  have hq := fun wx => eqCiv c wx
  go_wp2_with fail
  refine (hr _).mono ?_
  rintro e w3 ⟨d, rfl, hat3, _, _, hb3⟩
  obtain rfl := hat3.unique hat
  clear hat hat3
  go_wp2_with fail
  go_ret
  exact ⟨rfl, (hb1.trans (hb2.mono hb1.size)).trans (hb3.mono (Nat.le_trans hb1.size hb2.size))⟩
end Go.Proofs.YtleffgecobeekaaDoor

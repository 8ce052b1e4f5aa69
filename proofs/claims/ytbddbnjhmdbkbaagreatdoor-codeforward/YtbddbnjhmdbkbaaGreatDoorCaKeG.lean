/- In every program that a plan is made to all jumps lead on, within the code, its last instruction ends it, and all that is asked for is there: the law CodeForward returns true for every plan that memory holds. -/
import Derived.Test.YtbddbnjhmdbkbaaGreatDoorCaKeF
import Derived.Test.YtbddbnjhmdbkbaaGreatDoorCards
import Derived.Test.YtbddbnjhmdbkbaaGreatDoorTie
import Derived.WalkKit
import Derived.ProofKit
import Derived.OpenShut
import Derived.Below
import Derived.Carry
import Derived.SevenTiedAt
import Derived.SizedLaws
import Derived.ChangeMaps5
namespace Go.Proofs.YtbddbnjhmdbkbaaGreatDoor.codeForward
open Go.ChangeShapes Go.WideShapes Go.ChangeAt Go.WideMaps Go.WideElems Go.ChangeMaps Go.RowKit
set_option maxRecDepth 100000

theorem j1 : laidOutB Tryz.prog = true := by kernel_rfl
theorem j2 : mapsRowed Tryz.prog = true := by kernel_rfl
theorem j3 : (Rows.codeForwardRow.inPlace == Tryz.prog.inPlace 6) = true := by kernel_rfl
theorem j4 : (Rows.codeForwardRow.unfollowed == Tryz.prog.unfollowed 6) = true := by kernel_rfl
theorem j5 : (Rows.codeForwardRow.recurses == Tryz.prog.recurses 6) = true := by kernel_rfl
theorem j6 : (Rows.codeForwardRow.named == Tryz.prog.varsNamed 6) = true := by kernel_rfl
theorem j7 : Tryz.prog.stopsHeard = true := by kernel_rfl
theorem j8 : Tryz.prog.mayEnter = true := by kernel_rfl
theorem j9 : (Rows.codeForwardRow.lifted == Tryz.prog.liftsFinal) = true := by kernel_rfl
theorem j10 : (Rows.codeForwardRow.plainKeys == Tryz.prog.plainKeys) = true := by kernel_rfl
theorem j11 : namedTie Tryz.prog Rows.codeForwardRow.named (OpenSpec.ofChange Rows.codeForwardSpec).bare.vars = true := by kernel_rfl
theorem j0 : joinedFacts Tryz.prog 6 Tryz.f6 (OpenSpec.ofChange Rows.codeForwardSpec).bare Rows.codeForwardRow = true := by
  unfold joinedFacts
  rw [j1, j2, j3, j4, j5, j6, j7, j8, j9, j10, j11]
  kernel_rfl
theorem jn : Tryz.prog.funcNamed Rows.codeForwardRow.func = some 6 := by kernel_rfl
theorem ji : Tryz.f6.isInstance Tryz.prog Rows.codeForwardRow.origin Rows.codeForwardRow.targs := of_decide_eq_true (by kernel_rfl)
theorem jw : Tryz.f6.isWrapper Tryz.prog Rows.codeForwardRow.wrapper Rows.codeForwardRow.mainSum := by unfold Func.isWrapper; first | (rw [if_pos (by decide +kernel)]; kernel_rfl) | (rw [if_neg (by decide +kernel)]; exact ⟨rfl, rfl⟩)
theorem over : Rows.CodeForwardSaid :=
  OpenClaim.holds_of_cond 6 Tryz.f6 rfl rfl rfl rfl rfl rfl rfl ⟨rfl, rfl, rfl, rfl, rfl⟩ rfl rfl rfl rfl rfl jn Tryz.func6 j0
    ji jw
    (fun os started H enc _ F => by rw [OpenClaim.pre_eq_preRow]; exact lifted os started H enc F)
end Go.Proofs.YtbddbnjhmdbkbaaGreatDoor.codeForward

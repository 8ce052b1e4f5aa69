/- Every number that a program puts on its stack is asked for at the first place at which it stands among the constants: the law CodeConstants returns true for every plan that memory holds. -/
import Derived.Test.YtbddbnjhmdbkbaaGreatDoorCaKeB
import Derived.Test.YtbddbnjhmdbkbaaGreatDoorCards
import Derived.Test.YtbddbnjhmdbkbaaGreatDoorTie
import Derived.WalkKit
import Derived.ProofKit
import Derived.OpenShut
import Derived.Below
import Derived.Carry
import Derived.SevenTiedAt
import Derived.SizedLaws
import Derived.ChangeMaps5
namespace Go.Proofs.YtbddbnjhmdbkbaaGreatDoor.codeConstants
open Go.ChangeShapes Go.WideShapes Go.ChangeAt Go.WideMaps Go.WideElems Go.ChangeMaps Go.RowKit
set_option maxRecDepth 100000

theorem j1 : laidOutB Tryz.prog = true := by kernel_rfl
theorem j2 : mapsRowed Tryz.prog = true := by kernel_rfl
theorem j3 : (Rows.codeConstantsRow.inPlace == Tryz.prog.inPlace 7) = true := by kernel_rfl
theorem j4 : (Rows.codeConstantsRow.unfollowed == Tryz.prog.unfollowed 7) = true := by kernel_rfl
theorem j5 : (Rows.codeConstantsRow.recurses == Tryz.prog.recurses 7) = true := by kernel_rfl
theorem j6 : (Rows.codeConstantsRow.named == Tryz.prog.varsNamed 7) = true := by kernel_rfl
theorem j7 : Tryz.prog.stopsHeard = true := by kernel_rfl
theorem j8 : Tryz.prog.mayEnter = true := by kernel_rfl
theorem j9 : (Rows.codeConstantsRow.lifted == Tryz.prog.liftsFinal) = true := by kernel_rfl
theorem j10 : (Rows.codeConstantsRow.plainKeys == Tryz.prog.plainKeys) = true := by kernel_rfl
theorem j11 : namedTie Tryz.prog Rows.codeConstantsRow.named (OpenSpec.ofChange Rows.codeConstantsSpec).bare.vars = true := by kernel_rfl
theorem j0 : joinedFacts Tryz.prog 7 Tryz.f7 (OpenSpec.ofChange Rows.codeConstantsSpec).bare Rows.codeConstantsRow = true := by
  unfold joinedFacts
  rw [j1, j2, j3, j4, j5, j6, j7, j8, j9, j10, j11]
  kernel_rfl
theorem jn : Tryz.prog.funcNamed Rows.codeConstantsRow.func = some 7 := by kernel_rfl
theorem ji : Tryz.f7.isInstance Tryz.prog Rows.codeConstantsRow.origin Rows.codeConstantsRow.targs := of_decide_eq_true (by kernel_rfl)
theorem jw : Tryz.f7.isWrapper Tryz.prog Rows.codeConstantsRow.wrapper Rows.codeConstantsRow.mainSum := by unfold Func.isWrapper; first | (rw [if_pos (by decide +kernel)]; kernel_rfl) | (rw [if_neg (by decide +kernel)]; exact ⟨rfl, rfl⟩)
theorem over : Rows.CodeConstantsSaid :=
  OpenClaim.holds_of_cond 7 Tryz.f7 rfl rfl rfl rfl rfl rfl rfl ⟨rfl, rfl, rfl, rfl, rfl⟩ rfl rfl rfl rfl rfl jn Tryz.func7 j0
    ji jw
    (fun os started H enc _ F => by rw [OpenClaim.pre_eq_preRow]; exact lifted os started H enc F)
end Go.Proofs.YtbddbnjhmdbkbaaGreatDoor.codeConstants

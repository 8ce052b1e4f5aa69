/- Every plan is made to the program that the chapter's table lays, instruction by instruction: the law CodeEmits returns true for every plan that memory holds. -/
import Derived.Test.YtigldebdljfnbaaGreatDoorCmEaX
import Derived.Test.YtigldebdljfnbaaGreatDoorCards
import Derived.Test.YtigldebdljfnbaaGreatDoorTie
import Derived.WalkKit
import Derived.ProofKit
import Derived.OpenShut
import Derived.Below
import Derived.Carry
import Derived.SevenTiedAt
import Derived.SizedLaws
import Derived.ChangeMaps5
namespace Go.Proofs.YtigldebdljfnbaaGreatDoor.codeEmits
open Go.ChangeShapes Go.WideShapes Go.ChangeAt Go.WideMaps Go.WideElems Go.ChangeMaps Go.RowKit
set_option maxRecDepth 100000

theorem j1 : laidOutB Tryz.prog = true := by kernel_rfl
theorem j2 : mapsRowed Tryz.prog = true := by kernel_rfl
theorem j3 : (Rows.codeEmitsRow.inPlace == Tryz.prog.inPlace 3) = true := by kernel_rfl
theorem j4 : (Rows.codeEmitsRow.unfollowed == Tryz.prog.unfollowed 3) = true := by kernel_rfl
theorem j5 : (Rows.codeEmitsRow.recurses == Tryz.prog.recurses 3) = true := by kernel_rfl
theorem j6 : (Rows.codeEmitsRow.named == Tryz.prog.varsNamed 3) = true := by kernel_rfl
theorem j7 : Tryz.prog.stopsHeard = true := by kernel_rfl
theorem j8 : Tryz.prog.mayEnter = true := by kernel_rfl
theorem j9 : (Rows.codeEmitsRow.lifted == Tryz.prog.liftsFinal) = true := by kernel_rfl
theorem j10 : (Rows.codeEmitsRow.plainKeys == Tryz.prog.plainKeys) = true := by kernel_rfl
theorem j11 : namedTie Tryz.prog Rows.codeEmitsRow.named (OpenSpec.ofChange Rows.codeEmitsSpec).bare.vars = true := by kernel_rfl
theorem j0 : joinedFacts Tryz.prog 3 Tryz.f3 (OpenSpec.ofChange Rows.codeEmitsSpec).bare Rows.codeEmitsRow = true := by
  unfold joinedFacts
  rw [j1, j2, j3, j4, j5, j6, j7, j8, j9, j10, j11]
  kernel_rfl
theorem jn : Tryz.prog.funcNamed Rows.codeEmitsRow.func = some 3 := by kernel_rfl
theorem ji : Tryz.f3.isInstance Tryz.prog Rows.codeEmitsRow.origin Rows.codeEmitsRow.targs := of_decide_eq_true (by kernel_rfl)
theorem jw : Tryz.f3.isWrapper Tryz.prog Rows.codeEmitsRow.wrapper Rows.codeEmitsRow.mainSum := by unfold Func.isWrapper; first | (rw [if_pos (by decide +kernel)]; kernel_rfl) | (rw [if_neg (by decide +kernel)]; exact ⟨rfl, rfl⟩)
theorem over : Rows.CodeEmitsSaid :=
  OpenClaim.holds_of_cond 3 Tryz.f3 rfl rfl rfl rfl rfl rfl rfl ⟨rfl, rfl, rfl, rfl, rfl⟩ rfl rfl rfl rfl rfl jn Tryz.func3 j0
    ji jw
    (fun os started H enc _ F => by rw [OpenClaim.pre_eq_preRow]; exact lifted os started H enc F)
end Go.Proofs.YtigldebdljfnbaaGreatDoor.codeEmits

/- Programs that are answered are new memory: the law CodeKeeps returns true for every plan that memory holds. -/
import Derived.Test.YtigldebdljfnbaaGreatDoorCqEbX
import Derived.Test.YtigldebdljfnbaaGreatDoorCards
import Derived.Test.YtigldebdljfnbaaGreatDoorTie
import Derived.WalkKit
import Derived.ProofKit
import Derived.OpenShut
import Derived.Below
import Derived.Carry
import Derived.SevenTiedAt
import Derived.SizedLaws
import Derived.ChangeMaps5
namespace Go.Proofs.YtigldebdljfnbaaGreatDoor.codeKeeps
open Go.ChangeShapes Go.WideShapes Go.ChangeAt Go.WideMaps Go.WideElems Go.ChangeMaps Go.RowKit
set_option maxRecDepth 100000

theorem j1 : laidOutB Tryz.prog = true := by kernel_rfl
theorem j2 : mapsRowed Tryz.prog = true := by kernel_rfl
theorem j3 : (Rows.codeKeepsRow.inPlace == Tryz.prog.inPlace 4) = true := by kernel_rfl
theorem j4 : (Rows.codeKeepsRow.unfollowed == Tryz.prog.unfollowed 4) = true := by kernel_rfl
theorem j5 : (Rows.codeKeepsRow.recurses == Tryz.prog.recurses 4) = true := by kernel_rfl
theorem j6 : (Rows.codeKeepsRow.named == Tryz.prog.varsNamed 4) = true := by kernel_rfl
theorem j7 : Tryz.prog.stopsHeard = true := by kernel_rfl
theorem j8 : Tryz.prog.mayEnter = true := by kernel_rfl
theorem j9 : (Rows.codeKeepsRow.lifted == Tryz.prog.liftsFinal) = true := by kernel_rfl
theorem j10 : (Rows.codeKeepsRow.plainKeys == Tryz.prog.plainKeys) = true := by kernel_rfl
theorem j11 : namedTie Tryz.prog Rows.codeKeepsRow.named (OpenSpec.ofChange Rows.codeKeepsSpec).bare.vars = true := by kernel_rfl
theorem j0 : joinedFacts Tryz.prog 4 Tryz.f4 (OpenSpec.ofChange Rows.codeKeepsSpec).bare Rows.codeKeepsRow = true := by
  unfold joinedFacts
  rw [j1, j2, j3, j4, j5, j6, j7, j8, j9, j10, j11]
  kernel_rfl
theorem jn : Tryz.prog.funcNamed Rows.codeKeepsRow.func = some 4 := by kernel_rfl
theorem ji : Tryz.f4.isInstance Tryz.prog Rows.codeKeepsRow.origin Rows.codeKeepsRow.targs := of_decide_eq_true (by kernel_rfl)
theorem jw : Tryz.f4.isWrapper Tryz.prog Rows.codeKeepsRow.wrapper Rows.codeKeepsRow.mainSum := by unfold Func.isWrapper; first | (rw [if_pos (by decide +kernel)]; kernel_rfl) | (rw [if_neg (by decide +kernel)]; exact ⟨rfl, rfl⟩)
theorem over : Rows.CodeKeepsSaid :=
  OpenClaim.holds_of_cond 4 Tryz.f4 rfl rfl rfl rfl rfl rfl rfl ⟨rfl, rfl, rfl, rfl, rfl⟩ rfl rfl rfl rfl rfl jn Tryz.func4 j0
    ji jw
    (fun os started H enc _ F => by rw [OpenClaim.pre_eq_preRow]; exact lifted os started H enc F)
end Go.Proofs.YtigldebdljfnbaaGreatDoor.codeKeeps

import Derived.Test.YtkbmgloilckdhaaGreatDoorMtA
import Derived.Test.YtkbmgloilckdhaaGreatDoorCards
import Derived.Test.YtkbmgloilckdhaaGreatDoorTie
import Derived.WalkKit
import Derived.ProofKit
import Derived.OpenShut
import Derived.Below
import Derived.Carry
import Derived.SevenTiedAt
import Derived.SizedLaws
import Derived.ChangeMaps5
namespace Go.Proofs.YtkbmgloilckdhaaGreatDoor.foldPlans
open Go.ChangeShapes Go.WideShapes Go.ChangeAt Go.WideMaps Go.WideElems Go.ChangeMaps Go.RowKit
set_option maxRecDepth 100000
theorem j1:laidOutB Tryz.prog=true:=by kernel_rfl
theorem j2:mapsRowed Tryz.prog=true:=by kernel_rfl
theorem j3:(Rows.foldPlansRow.inPlace==Tryz.prog.inPlace 3)=true:=by kernel_rfl
theorem j4:(Rows.foldPlansRow.unfollowed==Tryz.prog.unfollowed 3)=true:=by kernel_rfl
theorem j5:(Rows.foldPlansRow.recurses==Tryz.prog.recurses 3)=true:=by kernel_rfl
theorem j6:(Rows.foldPlansRow.named==Tryz.prog.varsNamed 3)=true:=by kernel_rfl
theorem j7:Tryz.prog.stopsHeard=true:=by kernel_rfl
theorem j8:Tryz.prog.mayEnter=true:=by kernel_rfl
theorem j9:(Rows.foldPlansRow.lifted==Tryz.prog.liftsFinal)=true:=by kernel_rfl
theorem j10:(Rows.foldPlansRow.plainKeys==Tryz.prog.plainKeys)=true:=by kernel_rfl
theorem j11:namedTie Tryz.prog Rows.foldPlansRow.named (OpenSpec.ofChange Rows.foldPlansSpec).bare.vars=true:=by kernel_rfl
theorem j0:joinedFacts Tryz.prog 3 Tryz.f3 (OpenSpec.ofChange Rows.foldPlansSpec).bare Rows.foldPlansRow=true:=by
 unfold joinedFacts
 rw[j1,j2,j3,j4,j5,j6,j7,j8,j9,j10,j11]
 kernel_rfl
theorem jn:Tryz.prog.funcNamed Rows.foldPlansRow.func=some 3:=by kernel_rfl
theorem ji:Tryz.f3.isInstance Tryz.prog Rows.foldPlansRow.origin Rows.foldPlansRow.targs:=of_decide_eq_true (by kernel_rfl)
theorem jw:Tryz.f3.isWrapper Tryz.prog Rows.foldPlansRow.wrapper Rows.foldPlansRow.mainSum:=by unfold Func.isWrapper;first|(rw[if_pos (by decide +kernel)];kernel_rfl)|(rw[if_neg (by decide +kernel)];exact⟨rfl,rfl⟩)
theorem over:Rows.FoldPlansSaid:=
 OpenClaim.holds_of_cond 3 Tryz.f3 rfl rfl rfl rfl rfl rfl rfl ⟨rfl,rfl,rfl,rfl,rfl⟩ rfl rfl rfl rfl rfl jn Tryz.func3 j0
  ji jw
  (fun os started H enc _ F=>by rw[OpenClaim.pre_eq_preRow];exact lifted os started H enc F)
end Go.Proofs.YtkbmgloilckdhaaGreatDoor.foldPlans

import Derived.Test.YtbgomckkockemaaGreatDoorCards
import Derived.Test.YtbgomckkockemaaGreatDoorTie
import Derived.Test.YtbgomckkockemaaGreatDoorMbH
import Derived.WalkKit
import Derived.ProofKit
import Derived.OpenShut
import Derived.Below
import Derived.Carry
import Derived.SevenTiedAt
import Derived.SizedLaws
import Derived.ChangeMaps5
namespace Go.Proofs.YtbgomckkockemaaGreatDoor.meanForgets
open Go.ChangeShapes Go.WideShapes Go.ChangeAt Go.WideMaps Go.WideElems Go.ChangeMaps Go.RowKit
set_option maxRecDepth 100000
theorem j1:laidOutB Tryz.prog=true:=by kernel_rfl
theorem j2:mapsRowed Tryz.prog=true:=by kernel_rfl
theorem j3:(Rows.meanForgetsRow.inPlace==Tryz.prog.inPlace 5)=true:=by kernel_rfl
theorem j4:(Rows.meanForgetsRow.unfollowed==Tryz.prog.unfollowed 5)=true:=by kernel_rfl
theorem j5:(Rows.meanForgetsRow.recurses==Tryz.prog.recurses 5)=true:=by kernel_rfl
theorem j6:(Rows.meanForgetsRow.named==Tryz.prog.varsNamed 5)=true:=by kernel_rfl
theorem j7:Tryz.prog.stopsHeard=true:=by kernel_rfl
theorem j8:Tryz.prog.mayEnter=true:=by kernel_rfl
theorem j9:(Rows.meanForgetsRow.lifted==Tryz.prog.liftsFinal)=true:=by kernel_rfl
theorem j10:(Rows.meanForgetsRow.plainKeys==Tryz.prog.plainKeys)=true:=by kernel_rfl
theorem j11:namedTie Tryz.prog Rows.meanForgetsRow.named (OpenSpec.ofChange Rows.meanForgetsSpec).bare.vars=true:=by kernel_rfl
theorem j0:joinedFacts Tryz.prog 5 Tryz.f5 (OpenSpec.ofChange Rows.meanForgetsSpec).bare Rows.meanForgetsRow=true:=by
 unfold joinedFacts
 rw[j1,j2,j3,j4,j5,j6,j7,j8,j9,j10,j11]
 kernel_rfl
theorem jn:Tryz.prog.funcNamed Rows.meanForgetsRow.func=some 5:=by kernel_rfl
theorem ji:Tryz.f5.isInstance Tryz.prog Rows.meanForgetsRow.origin Rows.meanForgetsRow.targs:=of_decide_eq_true (by kernel_rfl)
theorem jw:Tryz.f5.isWrapper Tryz.prog Rows.meanForgetsRow.wrapper Rows.meanForgetsRow.mainSum:=by unfold Func.isWrapper;first|(rw[if_pos (by decide +kernel)];kernel_rfl)|(rw[if_neg (by decide +kernel)];exact⟨rfl,rfl⟩)
theorem over:Rows.MeanForgetsSaid:=
 OpenClaim.holds_of_cond 5 Tryz.f5 rfl rfl rfl rfl rfl rfl rfl ⟨rfl,rfl,rfl,rfl,rfl⟩ rfl rfl rfl rfl rfl jn Tryz.func5 j0
  ji jw
  (fun os started H enc _ F=>by rw[OpenClaim.pre_eq_preRow];exact lifted os started H enc F)
end Go.Proofs.YtbgomckkockemaaGreatDoor.meanForgets

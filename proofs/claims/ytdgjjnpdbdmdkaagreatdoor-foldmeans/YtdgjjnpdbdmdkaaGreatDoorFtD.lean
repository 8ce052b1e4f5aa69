import Derived.Test.YtdgjjnpdbdmdkaaGreatDoorFtC
import Derived.Test.YtdgjjnpdbdmdkaaGreatDoorCards
import Derived.Test.YtdgjjnpdbdmdkaaGreatDoorTie
import Derived.WalkKit
import Derived.ProofKit
import Derived.OpenShut
import Derived.Below
import Derived.Carry
import Derived.SevenTiedAt
import Derived.SizedLaws
import Derived.ChangeMaps5
namespace Go.Proofs.YtdgjjnpdbdmdkaaGreatDoor.foldMeans
open Go.ChangeShapes Go.WideShapes Go.ChangeAt Go.WideMaps Go.WideElems Go.ChangeMaps Go.RowKit
set_option maxRecDepth 100000
theorem j1:laidOutB Tryz.prog=true:=by kernel_rfl
theorem j2:mapsRowed Tryz.prog=true:=by kernel_rfl
theorem j3:(Rows.foldMeansRow.inPlace==Tryz.prog.inPlace 4)=true:=by kernel_rfl
theorem j4:(Rows.foldMeansRow.unfollowed==Tryz.prog.unfollowed 4)=true:=by kernel_rfl
theorem j5:(Rows.foldMeansRow.recurses==Tryz.prog.recurses 4)=true:=by kernel_rfl
theorem j6:(Rows.foldMeansRow.named==Tryz.prog.varsNamed 4)=true:=by kernel_rfl
theorem j7:Tryz.prog.stopsHeard=true:=by kernel_rfl
theorem j8:Tryz.prog.mayEnter=true:=by kernel_rfl
theorem j9:(Rows.foldMeansRow.lifted==Tryz.prog.liftsFinal)=true:=by kernel_rfl
theorem j10:(Rows.foldMeansRow.plainKeys==Tryz.prog.plainKeys)=true:=by kernel_rfl
theorem j11:namedTie Tryz.prog Rows.foldMeansRow.named (OpenSpec.ofChange Rows.foldMeansSpec).bare.vars=true:=by kernel_rfl
theorem j0:joinedFacts Tryz.prog 4 Tryz.f4 (OpenSpec.ofChange Rows.foldMeansSpec).bare Rows.foldMeansRow=true:=by
 unfold joinedFacts
 rw[j1,j2,j3,j4,j5,j6,j7,j8,j9,j10,j11]
 kernel_rfl
theorem jn:Tryz.prog.funcNamed Rows.foldMeansRow.func=some 4:=by kernel_rfl
theorem ji:Tryz.f4.isInstance Tryz.prog Rows.foldMeansRow.origin Rows.foldMeansRow.targs:=of_decide_eq_true (by kernel_rfl)
theorem jw:Tryz.f4.isWrapper Tryz.prog Rows.foldMeansRow.wrapper Rows.foldMeansRow.mainSum:=by unfold Func.isWrapper;first|(rw[if_pos (by decide +kernel)];kernel_rfl)|(rw[if_neg (by decide +kernel)];exact⟨rfl,rfl⟩)
theorem over:Rows.FoldMeansSaid:=
 OpenClaim.holds_of_cond 4 Tryz.f4 rfl rfl rfl rfl rfl rfl rfl ⟨rfl,rfl,rfl,rfl,rfl⟩ rfl rfl rfl rfl rfl jn Tryz.func4 j0
  ji jw
  (fun os started H enc _ F=>by rw[OpenClaim.pre_eq_preRow];exact lifted os started H enc F)
end Go.Proofs.YtdgjjnpdbdmdkaaGreatDoor.foldMeans

/- What every plan says behind every history is what the document decides in the Env that it sees: the law MeanDecides returns true for every plan,every list of events,every clock and report that memory holds. -/
import Derived.Test.YtbddbnjhmdbkbaaGreatDoorCards
import Derived.Test.YtbddbnjhmdbkbaaGreatDoorTie
import Derived.Test.YtbddbnjhmdbkbaaGreatDoorMdY
import Derived.WalkKit
import Derived.ProofKit
import Derived.OpenShut
import Derived.Below
import Derived.Carry
import Derived.SevenTiedAt
import Derived.SizedLaws
import Derived.ChangeMaps5
namespace Go.Proofs.YtbddbnjhmdbkbaaGreatDoor.meanDecides
open Go.ChangeShapes Go.WideShapes Go.ChangeAt Go.WideMaps Go.WideElems Go.ChangeMaps Go.RowKit
set_option maxRecDepth 100000
set_option maxHeartbeats 2000000 in
theorem over:Rows.MeanDecidesSaid:=
 OpenClaim.holds_of_cond 4 Tryz.f4 rfl rfl rfl rfl rfl rfl rfl ⟨rfl,rfl,rfl,rfl,rfl⟩ rfl rfl rfl rfl rfl (by as_aux_lemma=>kernel_rfl) Tryz.func4 (by as_aux_lemma=>kernel_rfl)
  (of_decide_eq_true (by as_aux_lemma=>kernel_rfl)) (by as_aux_lemma=>unfold Func.isWrapper;first|(rw[if_pos (by decide +kernel)];kernel_rfl)|(rw[if_neg (by decide +kernel)];exact⟨rfl,rfl⟩))
  (fun os started H enc _ F=>by rw[OpenClaim.pre_eq_preRow];exact c2R os started H enc F)
end Go.Proofs.YtbddbnjhmdbkbaaGreatDoor.meanDecides
namespace Go.Proofs.YtbddbnjhmdbkbaaGreatDoor
set_option maxRecDepth 100000 in
theorem meanDecides_card:Rows.MeanDecidesCardSaid:=
 Claim7.holds_tied_plain_at .later [] _ _ _ _
  meanDecides.over (fun _ h=>by cases h) (by kernel_rfl) (fun _ h=>by cases h) meanDecides_row_tie rfl ⟨rfl,rfl⟩ (by kernel_rfl) rfl
  (fun f fn hf hfn=>by
    obtain rfl:f=4:=Option.some.inj ((show Tryz.prog.funcNamed Rows.meanDecidesRow.func=some 4 by kernel_rfl).symm.trans hf) |>.symm
    obtain rfl:fn=Tryz.f4:=(Option.some.inj (Tryz.func4.symm.trans hfn)).symm
    exact⟨by kernel_rfl,fun j t ht=>by
     rw[Tryz.params4] at ht
     have hm:t∈[32,33,34]:=by simpa using Array.mem_of_getElem? ht
     have hall:([32,33,34].all fun u=>!Tryz.prog.wantsStandIn u)=true:=by kernel_rfl
     exact(show Tryz.prog.wantsStandIn t=false by simpa using List.all_eq_true.1 hall t hm)⟩)
  (by kernel_rfl)
#print axioms meanDecides_card
end Go.Proofs.YtbddbnjhmdbkbaaGreatDoor

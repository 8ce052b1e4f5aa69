/- Samples a week old are seen no more,and a tick at the same moment changes nothing: the law MeanForgets returns true for every plan,every two lists of events,every clock and report that memory holds. -/
import Derived.Test.YtbgomckkockemaaGreatDoorCards
import Derived.Test.YtbgomckkockemaaGreatDoorTie
import Derived.Test.YtbgomckkockemaaGreatDoorMbI
import Derived.WalkKit
import Derived.ProofKit
import Derived.OpenShut
import Derived.Below
import Derived.Carry
import Derived.SevenTiedAt
import Derived.SizedLaws
import Derived.ChangeMaps5
namespace Go.Proofs.YtbgomckkockemaaGreatDoor
set_option maxRecDepth 100000 in
theorem meanForgets_card:Rows.MeanForgetsCardSaid:=
 Claim7.holds_tied_plain_at .later [] _ _ _ _
  meanForgets.over (fun _ h=>by cases h) (by as_aux_lemma=>kernel_rfl) (fun _ h=>by cases h) meanForgets_row_tie rfl ⟨rfl,rfl⟩ (by as_aux_lemma=>kernel_rfl) rfl
  (fun f fn hf hfn=>by
    obtain rfl:f=5:=Option.some.inj ((show Tryz.prog.funcNamed Rows.meanForgetsRow.func=some 5 by as_aux_lemma=>kernel_rfl).symm.trans hf) |>.symm
    obtain rfl:fn=Tryz.f5:=(Option.some.inj (Tryz.func5.symm.trans hfn)).symm
    exact⟨by as_aux_lemma=>kernel_rfl,fun j t ht=>by
     rw[Tryz.params5] at ht
     have hm:t∈[32,51,34]:=by simpa using Array.mem_of_getElem? ht
     have hall:([32,51,34].all fun u=>!Tryz.prog.wantsStandIn u)=true:=by as_aux_lemma=>kernel_rfl
     exact(show Tryz.prog.wantsStandIn t=false by simpa using List.all_eq_true.1 hall t hm)⟩)
  (by as_aux_lemma=>kernel_rfl)
#print axioms meanForgets_card
end Go.Proofs.YtbgomckkockemaaGreatDoor

/- A folded plan is formed,and says in every Env what the plan says: the law FoldMeans returns true for every plan and every Env that memory holds. -/
import Derived.Test.YtdgjjnpdbdmdkaaGreatDoorFtD
import Derived.Test.YtdgjjnpdbdmdkaaGreatDoorCards
import Derived.Test.YtdgjjnpdbdmdkaaGreatDoorTie
import Derived.WalkKit
import Derived.ProofKit
import Derived.OpenShut
import Derived.Below
import Derived.Carry
import Derived.SevenTiedAt
import Derived.SizedLaws
import Derived.ChangeMaps5
namespace Go.Proofs.YtdgjjnpdbdmdkaaGreatDoor
set_option maxRecDepth 100000 in
theorem foldMeans_card:Rows.FoldMeansCardSaid:=
 Claim7.holds_tied_plain_at .later [] _ _ _ _
  foldMeans.over (fun _ h=>by cases h) (by as_aux_lemma=>kernel_rfl) (fun _ h=>by cases h) foldMeans_row_tie rfl ⟨rfl,rfl⟩ (by as_aux_lemma=>kernel_rfl) rfl
  (fun f fn hf hfn=>by
    obtain rfl:f=4:=Option.some.inj ((show Tryz.prog.funcNamed Rows.foldMeansRow.func=some 4 by as_aux_lemma=>kernel_rfl).symm.trans hf) |>.symm
    obtain rfl:fn=Tryz.f4:=(Option.some.inj (Tryz.func4.symm.trans hfn)).symm
    exact⟨by as_aux_lemma=>kernel_rfl,fun j t ht=>by
     rw[Tryz.params4] at ht
     have hm:t∈[32,42]:=by simpa using Array.mem_of_getElem? ht
     have hall:([32,42].all fun u=>!Tryz.prog.wantsStandIn u)=true:=by as_aux_lemma=>kernel_rfl
     exact(show Tryz.prog.wantsStandIn t=false by simpa using List.all_eq_true.1 hall t hm)⟩)
  (by as_aux_lemma=>kernel_rfl)
#print axioms foldMeans_card
end Go.Proofs.YtdgjjnpdbdmdkaaGreatDoor

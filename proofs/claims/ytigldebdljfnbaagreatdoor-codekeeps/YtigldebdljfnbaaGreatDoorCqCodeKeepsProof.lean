/- Programs that are answered are new memory: the law CodeKeeps returns true for every plan that memory holds. -/
import Derived.Test.YtigldebdljfnbaaGreatDoorCqEbY
import Derived.Test.YtigldebdljfnbaaGreatDoorCards
import Derived.Test.YtigldebdljfnbaaGreatDoorTie
import Derived.WalkKit
import Derived.ProofKit
import Derived.OpenShut
import Derived.Below
import Derived.Carry
import Derived.SevenTiedAt
import Derived.SizedLaws
import Derived.ChangeMaps5
namespace Go.Proofs.YtigldebdljfnbaaGreatDoor
set_option maxRecDepth 100000 in
/-- The statement. -/
theorem codeKeeps_card : Rows.CodeKeepsCardSaid :=
  Claim7.holds_tied_plain_at .later [] _ _ _ _
    codeKeeps.over (fun _ h => by cases h) (by as_aux_lemma => kernel_rfl) (fun _ h => by cases h) codeKeeps_row_tie rfl ⟨rfl, rfl⟩ (by as_aux_lemma => kernel_rfl) rfl
    (fun f fn hf hfn => by
      obtain rfl : f = 4 := Option.some.inj ((show Tryz.prog.funcNamed Rows.codeKeepsRow.func = some 4 by as_aux_lemma => kernel_rfl).symm.trans hf) |>.symm
      obtain rfl : fn = Tryz.f4 := (Option.some.inj (Tryz.func4.symm.trans hfn)).symm
      exact ⟨by as_aux_lemma => kernel_rfl, fun j t ht => by
        rw [Tryz.params4] at ht
        have hm : t ∈ [32] := by simpa using Array.mem_of_getElem? ht
        have hall : ([32].all fun u => !Tryz.prog.wantsStandIn u) = true := by as_aux_lemma => kernel_rfl
        exact (show Tryz.prog.wantsStandIn t = false by simpa using List.all_eq_true.1 hall t hm)⟩)
    (by as_aux_lemma => kernel_rfl)
#print axioms codeKeeps_card
end Go.Proofs.YtigldebdljfnbaaGreatDoor

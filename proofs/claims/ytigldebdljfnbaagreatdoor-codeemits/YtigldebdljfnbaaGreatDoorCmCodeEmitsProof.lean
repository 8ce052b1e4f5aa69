/- Every plan is made to the program that the chapter's table lays, instruction by instruction: the law CodeEmits returns true for every plan that memory holds. -/
import Derived.Test.YtigldebdljfnbaaGreatDoorCmEaY
import Derived.Test.YtigldebdljfnbaaGreatDoorCards
import Derived.Test.YtigldebdljfnbaaGreatDoorTie
import Derived.WalkKit
import Derived.ProofKit
import Derived.OpenShut
import Derived.Below
import Derived.Carry
import Derived.SevenTiedAt
import Derived.SizedLaws
import Derived.ChangeMaps5
namespace Go.Proofs.YtigldebdljfnbaaGreatDoor
set_option maxRecDepth 100000 in
/-- The statement. -/
theorem codeEmits_card : Rows.CodeEmitsCardSaid :=
  Claim7.holds_tied_plain_at .later [] _ _ _ _
    codeEmits.over (fun _ h => by cases h) (by as_aux_lemma => kernel_rfl) (fun _ h => by cases h) codeEmits_row_tie rfl ⟨rfl, rfl⟩ (by as_aux_lemma => kernel_rfl) rfl
    (fun f fn hf hfn => by
      obtain rfl : f = 3 := Option.some.inj ((show Tryz.prog.funcNamed Rows.codeEmitsRow.func = some 3 by as_aux_lemma => kernel_rfl).symm.trans hf) |>.symm
      obtain rfl : fn = Tryz.f3 := (Option.some.inj (Tryz.func3.symm.trans hfn)).symm
      exact ⟨by as_aux_lemma => kernel_rfl, fun j t ht => by
        rw [Tryz.params3] at ht
        have hm : t ∈ [32] := by simpa using Array.mem_of_getElem? ht
        have hall : ([32].all fun u => !Tryz.prog.wantsStandIn u) = true := by as_aux_lemma => kernel_rfl
        exact (show Tryz.prog.wantsStandIn t = false by simpa using List.all_eq_true.1 hall t hm)⟩)
    (by as_aux_lemma => kernel_rfl)
#print axioms codeEmits_card
end Go.Proofs.YtigldebdljfnbaaGreatDoor

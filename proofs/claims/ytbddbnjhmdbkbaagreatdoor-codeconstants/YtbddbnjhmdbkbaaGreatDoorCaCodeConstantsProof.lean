/- Every number that a program puts on its stack is asked for at the first place at which it stands among the constants: the law CodeConstants returns true for every plan that memory holds. -/
import Derived.Test.YtbddbnjhmdbkbaaGreatDoorCaKeC
import Derived.Test.YtbddbnjhmdbkbaaGreatDoorCards
import Derived.Test.YtbddbnjhmdbkbaaGreatDoorTie
import Derived.WalkKit
import Derived.ProofKit
import Derived.OpenShut
import Derived.Below
import Derived.Carry
import Derived.SevenTiedAt
import Derived.SizedLaws
import Derived.ChangeMaps5
namespace Go.Proofs.YtbddbnjhmdbkbaaGreatDoor
set_option maxRecDepth 100000 in
/-- The statement. -/
theorem codeConstants_card : Rows.CodeConstantsCardSaid :=
  Claim7.holds_tied_plain_at .later [] _ _ _ _
    codeConstants.over (fun _ h => by cases h) (by as_aux_lemma => kernel_rfl) (fun _ h => by cases h) codeConstants_row_tie rfl ⟨rfl, rfl⟩ (by as_aux_lemma => kernel_rfl) rfl
    (fun f fn hf hfn => by
      obtain rfl : f = 7 := Option.some.inj ((show Tryz.prog.funcNamed Rows.codeConstantsRow.func = some 7 by as_aux_lemma => kernel_rfl).symm.trans hf) |>.symm
      obtain rfl : fn = Tryz.f7 := (Option.some.inj (Tryz.func7.symm.trans hfn)).symm
      exact ⟨by as_aux_lemma => kernel_rfl, fun j t ht => by
        rw [Tryz.params7] at ht
        have hm : t ∈ [32] := by simpa using Array.mem_of_getElem? ht
        have hall : ([32].all fun u => !Tryz.prog.wantsStandIn u) = true := by as_aux_lemma => kernel_rfl
        exact (show Tryz.prog.wantsStandIn t = false by simpa using List.all_eq_true.1 hall t hm)⟩)
    (by as_aux_lemma => kernel_rfl)
#print axioms codeConstants_card
end Go.Proofs.YtbddbnjhmdbkbaaGreatDoor

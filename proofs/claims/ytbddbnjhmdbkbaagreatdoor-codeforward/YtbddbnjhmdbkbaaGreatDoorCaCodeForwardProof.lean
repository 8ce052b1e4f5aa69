/- In every program that a plan is made to all jumps lead on, within the code, its last instruction ends it, and all that is asked for is there: the law CodeForward returns true for every plan that memory holds. -/
import Derived.Test.YtbddbnjhmdbkbaaGreatDoorCaKeG
import Derived.Test.YtbddbnjhmdbkbaaGreatDoorCards
import Derived.Test.YtbddbnjhmdbkbaaGreatDoorTie
import Derived.WalkKit
import Derived.ProofKit
import Derived.OpenShut
import Derived.Below
import Derived.Carry
import Derived.SevenTiedAt
import Derived.SizedLaws
import Derived.ChangeMaps5
namespace Go.Proofs.YtbddbnjhmdbkbaaGreatDoor
set_option maxRecDepth 100000 in
/-- The statement. -/
theorem codeForward_card : Rows.CodeForwardCardSaid :=
  Claim7.holds_tied_plain_at .later [] _ _ _ _
    codeForward.over (fun _ h => by cases h) (by as_aux_lemma => kernel_rfl) (fun _ h => by cases h) codeForward_row_tie rfl ⟨rfl, rfl⟩ (by as_aux_lemma => kernel_rfl) rfl
    (fun f fn hf hfn => by
      obtain rfl : f = 6 := Option.some.inj ((show Tryz.prog.funcNamed Rows.codeForwardRow.func = some 6 by as_aux_lemma => kernel_rfl).symm.trans hf) |>.symm
      obtain rfl : fn = Tryz.f6 := (Option.some.inj (Tryz.func6.symm.trans hfn)).symm
      exact ⟨by as_aux_lemma => kernel_rfl, fun j t ht => by
        rw [Tryz.params6] at ht
        have hm : t ∈ [32] := by simpa using Array.mem_of_getElem? ht
        have hall : ([32].all fun u => !Tryz.prog.wantsStandIn u) = true := by as_aux_lemma => kernel_rfl
        exact (show Tryz.prog.wantsStandIn t = false by simpa using List.all_eq_true.1 hall t hm)⟩)
    (by as_aux_lemma => kernel_rfl)
#print axioms codeForward_card
end Go.Proofs.YtbddbnjhmdbkbaaGreatDoor

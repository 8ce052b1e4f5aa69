/- The law VerifyEmits, its premises met. -/
import Derived.Test.YtigldebdljfnbaaDoorVpJ
import Derived.Test.YtigldebdljfnbaaDoorNbM
import Derived.Test.YtigldebdljfnbaaDoorCeF
import Derived.Test.YtigldebdljfnbaaDoorNcE
namespace Go.Proofs.YtigldebdljfnbaaDoor
open Go.RowKit

theorem says_of {q : Co → Co → Bool} {p : PlP} (hf : formedP q p = true) (hl : largeB (progF p) = false) : ∃ hs, Says ckF heF (progF p) hs := by
  obtain ⟨T, hp, h1, h2, ⟨j, hj, he⟩, h3⟩ := emit_looks hf hl
  unfold largeB at hl
  simp only [Bool.or_eq_false_iff, decide_eq_false_iff_not] at hl
  have hn : (0 : Int) ≤ (progF p).h := by show (0 : Int) ≤ ((plHgt p : Nat) : Int); omega
  have hlo : ∀ x, x ∈ (List.range (progF p).C.length).map (fun j => (T j).1) → 0 ≤ x ∧ x ≤ (progF p).h := by
    intro x hx
    obtain ⟨k, hk, rfl⟩ := List.mem_map.1 hx
    exact h2 k (List.mem_range.1 hk)
  refine ⟨(List.range (progF p).C.length).map (fun j => (T j).1), ?_, by simp, by omega, ?_, hlo, ?_, hn, by omega, fun h => ?_⟩
  · unfold heF
    rw [h1]
    simp only [List.map_map]
    rfl
  · unfold ckF
    rw [h1]
  · exact most_all hn (fun x hx => (hlo x hx).2) (List.mem_map.2 ⟨j, List.mem_range.2 hj, he⟩)
  · have := h3 h
    unfold ckF
    cases e : looksF cfB (lowP (progF p) ((progF p).h - 1)) with
    | mk o n =>
      rw [e] at this
      simp only at this
      subst this
      rfl
theorem verifyEmits_c (p : PlP) (v : PlV) (w : World) (hs : PlAt w p v) (hL : p.gs.length * 96 ≤ 140737488355328) (hm : C64 p.mets.length) (hF : FldAt w) (hT : TabAt w) :
    Calls Tryd.prog 3 #[plV p v] w fun r w' => r = .returned (.bool true) ∧ Below w.heap.size w w' := by
  classical
  obtain ⟨q, hq⟩ : ∃ q : Co → Co → Bool, ∀ a b, q a b = true ↔ a = b := ⟨fun a b => decide (a = b), fun a b => by simp⟩
  refine verifyEmits_w ckF heF (emitF q p) ((min (cnodes p.fin) 4097 : Nat) : Int) p v w hs (fun W hW => awake23_c W (hF.later hW) (hT.next hW)) (fun W hW => crNodes_c p.fin v.fi W (hs.fi.next hW))
    (fun W hW => remit_c q p v W (hs.next hW) hm (fun W2 hW2 => rFormed_c q hq p v W2 ((hs.next hW).next hW2) hL))
    (fun g u W hW h ho => check_c g u W h ho (hF.later hW) (hT.next hW))
    (fun g u W hW h ho => (heights_c g u W h ho (hF.later hW) (hT.next hW)).mono fun e w' h => ?_) (fun h0 => ?_)
  · obtain ⟨h1, x, h2, h3⟩ := he_all h
    exact ⟨h1, x, h2, in_rows h3⟩
  · rcases emit_two q p with ⟨er, hE, her⟩ | ⟨hE, hf, hl⟩
    · rw [hE] at h0
      exact absurd h0 her
    · rw [hE]
      exact ⟨prog_ok hs hf hl, says_of hf hl⟩
end Go.Proofs.YtigldebdljfnbaaDoor

import Derived.Test.YtigldebdljfnbaaGreatDoorCqNaF
import Derived.Test.YtigldebdljfnbaaGreatDoorCqMgP
namespace Go.Proofs.YtigldebdljfnbaaGreatDoor
open Go.RowKit


theorem sM_some {wn cn ln : Int} (hw : wn ≤ 256) (hc : cn ≤ 256) (hl : ln ≤ 256) {t : Co} (h : csort ladF wn cn ln t ≠ 0) : sM t ≠ 0 := by
  unfold sM
  rw [csort_more hw hc hl t h]
  exact h
structure FoOk (c : Co) : Prop where
  so : sM c ≠ 0
  no : cnodes c ≤ 8192
theorem foldable {q : Co → Co → Bool} {p : PlP} (h : formedP q p = true) : (∀ g, g ∈ p.gs → FoOk g.1 ∧ FoOk g.2) ∧ FoOk p.fin := by
  unfold formedP at h
  simp only [Bool.and_eq_true] at h
  obtain ⟨⟨⟨⟨⟨h1, h2⟩, h3⟩, h4⟩, h5⟩, h6⟩ := h
  have hz := of_decide_eq_true h1
  have w1 : (p.wins.length : Int) ≤ 256 := by omega
  have w2 : (p.crons.length : Int) ≤ 256 := by omega
  unfold sortsB at h5
  simp only [Bool.and_eq_true, List.all_eq_true, decide_eq_true_eq] at h5
  refine ⟨fun g hg => ?_, ?_⟩
  · obtain ⟨a, b⟩ := h5.1 g hg
    obtain ⟨n1, n2⟩ := few_guard h2 hg
    exact ⟨⟨sM_some w1 w2 hz.2.2.2.2 (by rw [show csort ladF _ _ _ g.1 = 2 from a]; decide), by omega⟩, ⟨sM_some w1 w2 hz.2.2.2.2 (by rw [show csort ladF _ _ _ g.2 = 3 from b]; decide), by omega⟩⟩
  · exact ⟨sM_some w1 w2 hz.2.2.2.2 (by rw [show csort ladF _ _ _ p.fin = 3 from h5.2]; decide), by have := few_fin h2; omega⟩
end Go.Proofs.YtigldebdljfnbaaGreatDoor

/- The document's Sort, walked whole. -/
import Derived.Test.YtigldebdljfnbaaDoorCrG
import Derived.Test.YtigldebdljfnbaaDoorCrH
import Derived.Test.YtigldebdljfnbaaDoorCrI
import Derived.Test.YtigldebdljfnbaaDoorCrJ
namespace Go.Proofs.YtigldebdljfnbaaDoor
open Go.RowKit

theorem rSort_step (wn cn ln : Int) (h64 : C64 wn ∧ C64 cn ∧ C64 ln) (t : Co) (ih : ∀ x, x ∈ t.parts → RSo wn cn ln x) : RSo wn cn ln t := by
  by_cases h : ∃ k : Nat, t.op = (k : Int) ∧ fitsB k wn cn ln t = true ∧ ¬ k = 32 ∧ ∃ q : Nat, arT.getD k (-2) = (q : Int) ∧ t.parts.length = q
  case neg => exact rSort_front wn cn ln h64 t ih (fun k h1 h2 h3 q h4 h5 => h ⟨k, h1, h2, h3, q, h4, h5⟩)
  obtain ⟨k, h1, h2, h3, q, h4, h5⟩ := h
  have hr : 1 ≤ k ∧ k ≤ 31 := by
    rcases Nat.lt_or_ge k 33 with hk | hk
    · by_cases h0 : k = 0
      · subst h0; exfalso; have : (q : Int) = -2 := h4.symm; omega
      · omega
    · exfalso
      have : arT.getD k (-2) = -2 := by rw [List.getD_eq_getElem?_getD, List.getElem?_eq_none (by exact hk)]; rfl
      rw [this] at h4
      omega
  have hks : (k = 1 ∨ k = 2 ∨ k = 3 ∨ k = 4 ∨ k = 5 ∨ k = 6 ∨ k = 29) ∨ (k = 28) ∨ (k = 7 ∨ k = 8 ∨ k = 9 ∨ k = 10 ∨ k = 11 ∨ k = 12 ∨ k = 13 ∨ k = 30 ∨ k = 31) ∨ (k = 14 ∨ k = 15 ∨ k = 16 ∨ k = 17 ∨ k = 18 ∨ k = 19 ∨ k = 20) ∨ (k = 21 ∨ k = 22 ∨ k = 23 ∨ k = 24 ∨ k = 25 ∨ k = 26 ∨ k = 27) := by omega
  rcases hks with h | h | h | h | h
  · have hq : (q : Int) = 0 := by rcases h with rfl | rfl | rfl | rfl | rfl | rfl | rfl <;> exact h4.symm
    exact rSort_G0 wn cn ln h64 t ih k h1 h h2 (by omega)
  · have hq : (q : Int) = 3 := by subst h; exact h4.symm
    exact rSort_G1 wn cn ln h64 t ih k h1 h h2 (by omega)
  · have hq : (q : Int) = 1 := by rcases h with rfl | rfl | rfl | rfl | rfl | rfl | rfl | rfl | rfl <;> exact h4.symm
    exact rSort_H0 wn cn ln h64 t ih k h1 h h2 (by omega)
  · have hq : (q : Int) = 2 := by rcases h with rfl | rfl | rfl | rfl | rfl | rfl | rfl <;> exact h4.symm
    exact rSort_I0 wn cn ln h64 t ih k h1 h h2 (by omega)
  · have hq : (q : Int) = 2 := by rcases h with rfl | rfl | rfl | rfl | rfl | rfl | rfl <;> exact h4.symm
    exact rSort_J0 wn cn ln h64 t ih k h1 h h2 (by omega)
end Go.Proofs.YtigldebdljfnbaaDoor

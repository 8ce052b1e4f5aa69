/- Going through nodes with a visitor: what is visited, plain; what may turn. -/
import Derived.Test.YtdikeicnefgjcaaDoorTrC
namespace Go.Proofs.YtdikeicnefgjcaaDoor
open Go.RowKit

def runV {σ : Type} (vs : σ → Tm → σ × Bool) : List Tm → σ → σ × Bool
  | [], s => (s, true)
  | t :: r, s => if (vs s t).2 = true then runV vs r (vs s t).1 else ((vs s t).1, false)
theorem runV_append {σ : Type} (vs : σ → Tm → σ × Bool) : ∀ (a b : List Tm) (s : σ), runV vs (a ++ b) s = if (runV vs a s).2 = true then runV vs b (runV vs a s).1 else ((runV vs a s).1, false)
  | [], b, s => by simp [runV]
  | t :: a, b, s => by
    rw [List.cons_append, runV, runV]
    by_cases h : (vs s t).2 = true
    · rw [if_pos h, if_pos h]; exact runV_append vs a b _
    · rw [if_neg h, if_neg h]; simp
theorem runV_good {σ : Type} {vs : σ → Tm → σ × Bool} {G : σ → Prop} (hG : ∀ s t, G s → (vs s t).2 = true → G (vs s t).1) : ∀ (l : List Tm) (s : σ), G s → (runV vs l s).2 = true → G (runV vs l s).1
  | [], s, h, _ => h
  | t :: r, s, h, k => by
    rw [runV] at k ⊢
    by_cases hc : (vs s t).2 = true
    · rw [if_pos hc] at k ⊢; exact runV_good hG r _ (hG s t h hc) k
    · rw [if_neg hc] at k; cases k
theorem pair_false {σ : Type} {q : σ × Bool} (h : q.2 = false) : q = (q.1, false) := by cases q; simp at h; rw [h]
/-- What a visit leaves: its answer, its state, and which blocks may have turned. -/
def VPost {σ : Type} (R : σ → List Nat → World → Prop) (q : σ × Bool) (F : List Nat) (w : World) (e : Ending) (w' : World) : Prop :=
  e = .returned (.bool q.2) ∧ ∃ F', R q.1 F' w' ∧ Turn F w w' ∧ ∀ b, b ∈ F' → b ∈ F ∨ w.heap.size ≤ b
theorem VPost.pre {σ : Type} {R : σ → List Nat → World → Prop} {q : σ × Bool} {F : List Nat} {w w1 w' : World} {e : Ending} (h : VPost R q F w1 e w') (hb : Below w.heap.size w w1) : VPost R q F w e w' := by
  obtain ⟨he, F', hr, ht, hf⟩ := h
  refine ⟨he, F', hr, (Turn.of_below (S := F) hb).trans ht (fun _ hi => .inl hi), fun b hm => ?_⟩
  rcases hf b hm with k | k
  · exact .inl k
  · exact .inr (Nat.le_trans hb.size k)
theorem VPost.then {σ : Type} {R : σ → List Nat → World → Prop} {q : σ × Bool} {F F1 : List Nat} {w w1 w' : World} {e : Ending} (h : VPost R q F1 w1 e w') (ht1 : Turn F w w1) (hf1 : ∀ b, b ∈ F1 → b ∈ F ∨ w.heap.size ≤ b) : VPost R q F w e w' := by
  obtain ⟨he, F', hr, ht, hf⟩ := h
  refine ⟨he, F', hr, ht1.trans ht (fun b hi => hf1 b hi), fun b hm => ?_⟩
  rcases hf b hm with k | k
  · exact hf1 b k
  · exact .inr (Nat.le_trans ht1.size k)
/-- A block that was there and is none of the visitor's stays. -/
theorem Box.over {F : List Nat} {w w' : World} {g : Nat} {vs : List Value} (h : Box w g vs) (t : Turn F w w') (hn : g ∉ F) : Box w' g vs := h.turn t hn
theorem flat_take (l : List Tm) (k : Nat) (hk : k < l.length) : ((l.take (k + 1)).map pord).flatten = ((l.take k).map pord).flatten ++ pord l[k] := by
  rw [List.take_succ_eq_append_getElem hk]; simp only [List.map_append, List.flatten_append, List.map_cons, List.map_nil, List.flatten_cons, List.flatten_nil, List.append_nil]
theorem flat_split (l : List Tm) (k : Nat) (hk : k < l.length) : (l.map pord).flatten = ((l.take k).map pord).flatten ++ (pord l[k] ++ ((l.drop (k + 1)).map pord).flatten) := by
  have e : l = l.take k ++ (l[k] :: l.drop (k + 1)) := by rw [← List.drop_eq_getElem_cons hk, List.take_append_drop]
  conv => lhs; rw [e]
  simp only [List.map_append, List.flatten_append, List.map_cons, List.flatten_cons]
end Go.Proofs.YtdikeicnefgjcaaDoor

/- Going through the nodes of a core with a visitor: what is visited, plain; what may turn. -/
import Derived.Test.YtkhdcojgcnomgaaGreatDoorCoM
namespace Go.Proofs.YtkhdcojgcnomgaaGreatDoor
open Go.RowKit

def crunV {σ : Type} (vs : σ → Co → σ × Bool) : List Co → σ → σ × Bool
  | [], s => (s, true)
  | t :: r, s => if (vs s t).2 = true then crunV vs r (vs s t).1 else ((vs s t).1, false)
theorem crunV_append {σ : Type} (vs : σ → Co → σ × Bool) : ∀ (a b : List Co) (s : σ), crunV vs (a ++ b) s = if (crunV vs a s).2 = true then crunV vs b (crunV vs a s).1 else ((crunV vs a s).1, false)
  | [], b, s => by simp [crunV]
  | t :: a, b, s => by
    rw [List.cons_append, crunV, crunV]
    by_cases h : (vs s t).2 = true
    · rw [if_pos h, if_pos h]; exact crunV_append vs a b _
    · rw [if_neg h, if_neg h]; simp
theorem crunV_good {σ : Type} {vs : σ → Co → σ × Bool} {G : σ → Prop} (hG : ∀ s t, G s → (vs s t).2 = true → G (vs s t).1) : ∀ (l : List Co) (s : σ), G s → (crunV vs l s).2 = true → G (crunV vs l s).1
  | [], s, h, _ => h
  | t :: r, s, h, k => by
    rw [crunV] at k ⊢
    by_cases hc : (vs s t).2 = true
    · rw [if_pos hc] at k ⊢; exact crunV_good hG r _ (hG s t h hc) k
    · rw [if_neg hc] at k; cases k
theorem cpair_false {σ : Type} {q : σ × Bool} (h : q.2 = false) : q = (q.1, false) := by cases q; simp at h; rw [h]
/-- What a visit leaves: its answer, its state, and which blocks may have turned. -/
def CVPost {σ : Type} (R : σ → List Nat → World → Prop) (q : σ × Bool) (F : List Nat) (w : World) (e : Ending) (w' : World) : Prop :=
  e = .returned (.bool q.2) ∧ ∃ F', R q.1 F' w' ∧ Turn F w w' ∧ ∀ b, b ∈ F' → b ∈ F ∨ w.heap.size ≤ b
theorem CVPost.pre {σ : Type} {R : σ → List Nat → World → Prop} {q : σ × Bool} {F : List Nat} {w w1 w' : World} {e : Ending} (h : CVPost R q F w1 e w') (hb : Below w.heap.size w w1) : CVPost R q F w e w' := by
  obtain ⟨he, F', hr, ht, hf⟩ := h
  refine ⟨he, F', hr, (Turn.of_below (S := F) hb).trans ht (fun _ hi => .inl hi), fun b hm => ?_⟩
  rcases hf b hm with k | k
  · exact .inl k
  · exact .inr (Nat.le_trans hb.size k)
theorem CVPost.then {σ : Type} {R : σ → List Nat → World → Prop} {q : σ × Bool} {F F1 : List Nat} {w w1 w' : World} {e : Ending} (h : CVPost R q F1 w1 e w') (ht1 : Turn F w w1) (hf1 : ∀ b, b ∈ F1 → b ∈ F ∨ w.heap.size ≤ b) : CVPost R q F w e w' := by
  obtain ⟨he, F', hr, ht, hf⟩ := h
  refine ⟨he, F', hr, ht1.trans ht (fun b hi => hf1 b hi), fun b hm => ?_⟩
  rcases hf b hm with k | k
  · exact hf1 b k
  · exact .inr (Nat.le_trans ht1.size k)
/-- A block that was there and is none of the visitor's stays. -/
theorem Box.overC {F : List Nat} {w w' : World} {g : Nat} {vs : List Value} (h : Box w g vs) (t : Turn F w w') (hn : g ∉ F) : Box w' g vs := h.turn t hn
theorem cflat_take (l : List Co) (k : Nat) (hk : k < l.length) : ((l.take (k + 1)).map cpord).flatten = ((l.take k).map cpord).flatten ++ cpord l[k] := by
  rw [List.take_succ_eq_append_getElem hk]; simp only [List.map_append, List.flatten_append, List.map_cons, List.map_nil, List.flatten_cons, List.flatten_nil, List.append_nil]
theorem cflat_split (l : List Co) (k : Nat) (hk : k < l.length) : (l.map cpord).flatten = ((l.take k).map cpord).flatten ++ (cpord l[k] ++ ((l.drop (k + 1)).map cpord).flatten) := by
  have e : l = l.take k ++ (l[k] :: l.drop (k + 1)) := by rw [← List.drop_eq_getElem_cons hk, List.take_append_drop]
  conv => lhs; rw [e]
  simp only [List.map_append, List.flatten_append, List.map_cons, List.flatten_cons]
end Go.Proofs.YtkhdcojgcnomgaaGreatDoor

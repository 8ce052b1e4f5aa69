/- The document's product (package capstanref01). -/
import Derived.Test.YtccgbkafcbfcgaaRef5
import Derived.Test.YtccgbkafcbfcgaaTims
import Derived.Deep.OwnRows
import Derived.Deep.QuietTactic
namespace Go.Proofs.Ytccgbkafcbfcgaa
open Go.RowKit Go.Deep

/-- The block g is a row of ints that may be written, and reads as d. -/
structure RowG (w : World) (g : Nat) (d : List Int) : Prop where
  lt : g < w.heap.size
  cell : ∀ i, i < d.length → w.cell? ⟨g, i, none⟩ = some (.int .i64 (d.getD i 0))
  free : ∀ i, i < d.length → w.frozen? ⟨g, i, none⟩ = false
theorem RowG.set {w : World} {g : Nat} {d : List Int} (h : RowG w g d) (k : Nat) (hk : k < d.length) (x : Int) : RowG (w.setCell ⟨g, k, none⟩ (.int .i64 x)) g (d.set k x) := by
  refine ⟨by simpa [World.setCell] using h.lt, fun i hi => ?_, fun i hi => ?_⟩
  · rw [List.length_set] at hi
    rw [getD_set d k i x hk]
    by_cases e : i = k
    · subst e; rw [if_pos rfl, World.cell?_setCell_same _ _ _ (h.cell i hi)]
    · rw [if_neg e, World.cell?_setCell_other _ _ _ _ (by intro e'; cases e'; exact e rfl)]; exact h.cell i hi
  · rw [List.length_set] at hi
    rw [World.frozen?_setCell]; exact h.free i hi
theorem RowG.made (w : World) (n : Nat) : RowG (w.alloc (.cells (madeCells #[.int .i64 0] n) 3)) w.heap.size (List.replicate n 0) := by
  refine ⟨by simp, fun i hi => ?_, fun i hi => ?_⟩
  · simp at hi
    rw [zeros_get]
    exact (World.rowIs_made w (.int .i64 0) n 3).cell hi
  · exact (World.rowIs_made w (.int .i64 0) n 3).frozen i
theorem RowG.isD {w : World} {g : Nat} {d : List Int} (h : RowG w g d) (hl : d.length ≤ 1000) : IsD w (.slice (some ⟨g, 0, none⟩) d.length d.length) d :=
  ⟨_, _, rfl, hl, Nat.le_refl _, by unfold maxLen; omega, .inr ⟨g, 0, rfl, h.lt, fun i hi => by rw [Nat.zero_add]; exact h.cell i hi⟩⟩
theorem RowG.later {w w' : World} {g : Nat} {d : List Int} (h : RowG w g d) (hb : Below w.heap.size w w') : RowG w' g d :=
  ⟨Nat.lt_of_lt_of_le h.lt hb.size, fun i hi => (hb.cell (p := ⟨g, i, none⟩) h.lt).trans (h.cell i hi), fun i hi => (hb.frozen (p := ⟨g, i, none⟩) h.lt).trans (h.free i hi)⟩

/-- What the product's loops find in memory: the two numbers' boxes, the result's, and the numbers' digits. -/
structure TMem (s0 : Nat) (na nb : Bool) (va vb : Value) (wr : World) : Prop where
  a0 : wr.cell? ⟨s0, 0, none⟩ = some (.bool na)
  a1 : wr.cell? ⟨s0, 1, none⟩ = some va
  b0 : wr.cell? ⟨s0 + 1, 0, none⟩ = some (.bool nb)
  b1 : wr.cell? ⟨s0 + 1, 1, none⟩ = some vb
  c0 : wr.cell? ⟨s0 + 1 + 1, 0, none⟩ = some (.bool false)
  c1 : wr.cell? ⟨s0 + 1 + 1, 1, none⟩ = some (.slice none 0 0)
  f0 : wr.frozen? ⟨s0 + 1 + 1, 0, none⟩ = false
  f1 : wr.frozen? ⟨s0 + 1 + 1, 1, none⟩ = false
theorem TMem.later {s0 : Nat} {na nb : Bool} {va vb : Value} {wr w' : World} (h : TMem s0 na nb va vb wr) (hb : Below (s0 + 1 + 1 + 1) wr w') : TMem s0 na nb va vb w' :=
  ⟨(hb.cell (p := ⟨s0, 0, none⟩) (by simp <;> omega)).trans h.a0, (hb.cell (p := ⟨s0, 1, none⟩) (by simp <;> omega)).trans h.a1, (hb.cell (p := ⟨s0 + 1, 0, none⟩) (by simp <;> omega)).trans h.b0, (hb.cell (p := ⟨s0 + 1, 1, none⟩) (by simp <;> omega)).trans h.b1, (hb.cell (p := ⟨s0 + 1 + 1, 0, none⟩) (by simp <;> omega)).trans h.c0, (hb.cell (p := ⟨s0 + 1 + 1, 1, none⟩) (by simp <;> omega)).trans h.c1, (hb.frozen (p := ⟨s0 + 1 + 1, 0, none⟩) (by simp <;> omega)).trans h.f0, (hb.frozen (p := ⟨s0 + 1 + 1, 1, none⟩) (by simp <;> omega)).trans h.f1⟩

end Go.Proofs.Ytccgbkafcbfcgaa

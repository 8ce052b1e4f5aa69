/- Blocks of memory as the proofs see them: what lies in a block, and that it may be written. -/
import Derived.Test.YtigldebdljfnbaaDoorChecked
import Derived.WalkKit
import Derived.WalkSpells
import Derived.Below
import Derived.BigQuiet
namespace Go.Proofs.YtigldebdljfnbaaDoor
open Go.RowKit

structure Box (w : World) (g : Nat) (vs : List Value) : Prop where
  cell : ∀ (i : Nat) v, vs[i]? = some v → w.cell? ⟨g, i, none⟩ = some v
  free : ∀ i, i < vs.length → w.frozen? ⟨g, i, none⟩ = false
  lt : g < w.heap.size
theorem Box.later {w w' : World} {g s : Nat} {vs : List Value} (h : Box w g vs) (hb : Below s w w') (hg : g < s) : Box w' g vs :=
  ⟨fun i v hv => (hb.cell (p := ⟨g, i, none⟩) hg).trans (h.cell i v hv), fun i hi => (hb.frozen (p := ⟨g, i, none⟩) hg).trans (h.free i hi), Nat.lt_of_lt_of_le h.lt hb.size⟩
theorem Box.next {w w' : World} {g : Nat} {vs : List Value} (h : Box w g vs) (hb : Below w.heap.size w w') : Box w' g vs := h.later hb h.lt
theorem Box.new (w : World) (vs : List Value) (t : TypeId) : Box (w.alloc (.cells vs.toArray t)) w.heap.size vs :=
  ⟨fun i v hv => by simp [go_sem, hv], fun i hi => by simp [go_sem], by simp⟩
theorem Box.other {w : World} {g q j : Nat} {v : Value} {vs : List Value} (h : Box w g vs) (hg : g ≠ q) : Box (w.setCell ⟨q, j, none⟩ v) g vs :=
  ⟨fun i v hv => (World.cell?_setCell_other _ _ _ _ (by intro e'; cases e'; exact hg rfl)).trans (h.cell i v hv), fun i hi => (World.frozen?_setCell _ _ _ _).trans (h.free i hi), by simpa using h.lt⟩
theorem Box.set {w : World} {g : Nat} {vs : List Value} (h : Box w g vs) (k : Nat) (hk : k < vs.length) (x : Value) : Box (w.setCell ⟨g, k, none⟩ x) g (vs.set k x) := by
  refine ⟨fun i v hv => ?_, fun i hi => (World.frozen?_setCell _ _ _ _).trans (h.free i (by simpa using hi)), by simpa using h.lt⟩
  by_cases e : k = i
  · subst e
    rw [List.getElem?_set_self hk] at hv
    cases hv
    exact World.cell?_setCell_same _ _ _ (h.cell k _ (List.getElem?_eq_getElem hk))
  · rw [List.getElem?_set_ne e] at hv
    exact (World.cell?_setCell_other _ _ _ _ (by intro e'; cases e'; exact e rfl)).trans (h.cell i v hv)
theorem Box.five {w : World} {g : Nat} {v0 v1 v2 v3 v4 : Value} (h : Box w g [v0, v1, v2, v3, v4]) : w.cell? ⟨g, 0, none⟩ = some v0 ∧ w.cell? ⟨g, 1, none⟩ = some v1 ∧ w.cell? ⟨g, 2, none⟩ = some v2 ∧ w.cell? ⟨g, 3, none⟩ = some v3 ∧ w.cell? ⟨g, 4, none⟩ = some v4 ∧ w.frozen? ⟨g, 0, none⟩ = false ∧ w.frozen? ⟨g, 1, none⟩ = false ∧ w.frozen? ⟨g, 2, none⟩ = false ∧ w.frozen? ⟨g, 3, none⟩ = false ∧ w.frozen? ⟨g, 4, none⟩ = false :=
  ⟨h.cell 0 _ rfl, h.cell 1 _ rfl, h.cell 2 _ rfl, h.cell 3 _ rfl, h.cell 4 _ rfl, h.free 0 (by simp), h.free 1 (by simp), h.free 2 (by simp), h.free 3 (by simp), h.free 4 (by simp)⟩
theorem one_box (w : World) (t0 : TypeId) (xs : List Value) : Box (w.alloc (.cells xs.toArray t0)) w.heap.size xs ∧ Below w.heap.size w (w.alloc (.cells xs.toArray t0)) :=
  ⟨Box.new _ _ _, (Below.refl _ _).alloc (Nat.le_refl _) _⟩
theorem two_boxes (w : World) (t0 t1 : TypeId) (xs ys : List Value) :
    Box ((w.alloc (.cells xs.toArray t0)).alloc (.cells ys.toArray t1)) w.heap.size xs ∧ Box ((w.alloc (.cells xs.toArray t0)).alloc (.cells ys.toArray t1)) (w.heap.size + 1) ys ∧
      Below w.heap.size w ((w.alloc (.cells xs.toArray t0)).alloc (.cells ys.toArray t1)) := by
  refine ⟨(Box.new w xs t0).next ((Below.refl _ _).alloc (Nat.le_refl _) _), by simpa using Box.new (w.alloc (.cells xs.toArray t0)) ys t1, ((Below.refl _ _).alloc (Nat.le_refl _) _).alloc (by simp) _⟩
theorem three_boxes (w : World) (t0 t1 t2 : TypeId) (xs ys zs : List Value) :
    Box (((w.alloc (.cells xs.toArray t0)).alloc (.cells ys.toArray t1)).alloc (.cells zs.toArray t2)) w.heap.size xs ∧ Box (((w.alloc (.cells xs.toArray t0)).alloc (.cells ys.toArray t1)).alloc (.cells zs.toArray t2)) (w.heap.size + 1) ys ∧
      Box (((w.alloc (.cells xs.toArray t0)).alloc (.cells ys.toArray t1)).alloc (.cells zs.toArray t2)) (w.heap.size + 1 + 1) zs ∧ Below w.heap.size w (((w.alloc (.cells xs.toArray t0)).alloc (.cells ys.toArray t1)).alloc (.cells zs.toArray t2)) := by
  obtain ⟨h1, h2, h3⟩ := two_boxes w t0 t1 xs ys
  have e := Box.new ((w.alloc (.cells xs.toArray t0)).alloc (.cells ys.toArray t1)) zs t2
  refine ⟨h1.next ((Below.refl _ _).alloc (Nat.le_refl _) _), h2.next ((Below.refl _ _).alloc (Nat.le_refl _) _), by simpa using e, h3.alloc (by simp; omega) _⟩
end Go.Proofs.YtigldebdljfnbaaDoor

/- Small laws that the texts of cores share. -/
import Derived.Test.YthfnjlfhaibbeaaDoorMoM
namespace Go.Proofs.YthfnjlfhaibbeaaDoor
open Go.RowKit

theorem chid {p : Prop} (h : p) : Hid p := h
theorem cbelow_on {B : Nat} {w a b : World} (h : Below B w a) (k : Below a.heap.size a b) (hB : B ≤ a.heap.size) : Below B w b := h.trans (k.mono hB)
theorem cdrewN {B : Nat} {w a : World} (h : Below B w a) (k : Nat) : Below B w (a.drewN k) := ⟨h.os, h.tape, h.output, h.size, h.block⟩
theorem cturn_set (w : World) (g k : Nat) (v : Value) : Turn [g] w (w.setCell ⟨g, k, none⟩ v) := (Turn.refl [g] w).andSet _ _ (.inl (by simp))
theorem cturn_one {a b d : World} {g : Nat} (h : Turn [g] a b) (k : Turn [g] b d) : Turn [g] a d := h.trans k (fun _ hi => .inl hi)
theorem cturn_cell {S : List Nat} {w w' : World} (k : Turn S w w') {b j : Nat} (hb : b < w.heap.size) (hS : b ∉ S) : w'.cell? ⟨b, j, none⟩ = w.cell? ⟨b, j, none⟩ := by
  unfold World.cell?
  rw [k.block b hb hS]
end Go.Proofs.YthfnjlfhaibbeaaDoor

/- Package codec: the document's number. -/
import Derived.Test.YthfnjlfhaibbeaaDoorDcF
namespace Go.Proofs.YthfnjlfhaibbeaaDoor
open Go.RowKit

/-- The bytes so far lie in the row v; nothing else but F was touched. -/
structure Nb (B : Nat) (F : List Nat) (w : World) (l : List UInt8) (w' : World) (v : Value) : Prop where
  row : Bys w' B v l
  turn : Turn F w w'
  own : ∀ i, v.ownBlock = some i → i ∈ F ∨ w.heap.size ≤ i
theorem Nb.refl {B : Nat} {w : World} {l : List UInt8} {v : Value} (h : Bys w B v l) : Nb B (blk v) w l w v := ⟨h, Turn.refl _ _, fun _ hi => .inl (blk_mem.2 hi)⟩
theorem Nb.trans {B : Nat} {F : List Nat} {a b c : World} {l m : List UInt8} {v u : Value} (h : Nb B F a l b v) (k : Nb B (blk v) b m c u) : Nb B F a m c u := by
  refine ⟨k.row, h.turn.trans k.turn (fun i hi => h.own i (blk_mem.1 hi)), fun i hi => ?_⟩
  rcases k.own i hi with q | q
  · exact h.own i (blk_mem.1 q)
  · exact .inr (Nat.le_trans h.turn.size q)
theorem Nb.after {B : Nat} {F : List Nat} {a b c : World} {l : List UInt8} {v : Value} (h : Nb B F a l b v) (k : Below b.heap.size b c) : Nb B F a l c v :=
  ⟨own_turn h.row (S := []) (Turn.of_below k) (fun _ _ hm => by cases hm), h.turn.andBelow k, h.own⟩
theorem nb_laid {B : Nat} {w w1 w3 : World} {l : List UInt8} {x : UInt8} {ca : Option Addr} {cc g1 c1 : Nat} (hb : Below w.heap.size w w1) (ho : w3.ownsRow B 5 1 (.slice (some ⟨g1, 0, none⟩) (l.length + 1) c1) (l.length + 1) (l.map byc ++ [byc x])) (hg : w1.grownBy w3 (Value.slice ca l.length cc).ownBlock) (hl : (Value.slice ca l.length cc).ownBlock = some g1 ∨ g1 = w1.heap.size) :
    Nb B (blk (.slice ca l.length cc)) w (l ++ [x]) w3 (.slice (some ⟨g1, 0, none⟩) (l.length + 1) c1) := by
  refine ⟨?_, (Turn.of_below hb).trans (S' := blk (.slice ca l.length cc)) ⟨hg.os, hg.tape, hg.output, hg.size, fun k hk hn => hg.block k hk (fun e => hn (blk_mem.2 e.symm))⟩ (fun i hi => .inl hi), fun i hi => ?_⟩
  · show World.ownsRow _ _ _ _ _ (l ++ [x]).length _
    rw [List.map_append, List.length_append]
    exact ho
  · have e : g1 = i := Option.some.inj hi
    subst e
    rcases hl with hl | hl
    · exact .inl (blk_mem.2 hl)
    · exact .inr (by have := hb.size; omega)
end Go.Proofs.YthfnjlfhaibbeaaDoor

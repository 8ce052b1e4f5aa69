/- Package codec: the document's Encode. -/
import Derived.Test.YthfnjlfhaibbeaaDoorDcH
namespace Go.Proofs.YthfnjlfhaibbeaaDoor
open Go.RowKit

theorem own_new (w : World) (e : TypeId) (n k : Nat) (xs : List Value) (B : Nat) (hB : B ≤ w.heap.size) (hl : xs.length = n * k) (hn : n ≤ maxLen) : (w.alloc (.cells xs.toArray e)).ownsRow B e k (.slice (some ⟨w.heap.size, 0, none⟩) n n) n xs :=
  ⟨hl, .inr ⟨w.heap.size, n, xs.toArray, rfl, hB, heap_new w _, Nat.le_refl _, hn, by simpa using hl, by rw [← hl]; simp⟩⟩
/-- Where the document's Encode stands: the bytes so far, the program's box. -/
structure Ste (w wr : World) (ps : List Value) (X : List UInt8) (v : Value) : Prop where
  row : Bys wr (w.heap.size + 1) v X
  box : Box wr w.heap.size ps
  bel : Below w.heap.size w wr
theorem Ste.step {w wr w' : World} {ps : List Value} {X Y : List UInt8} {v v' : Value} (h : Ste w wr ps X v) (k : Nb (w.heap.size + 1) (blk v) wr Y w' v') : Ste w w' ps Y v' :=
  ⟨k.row, h.box.turn k.turn (fun hm => by have := (h.row.lt _ (blk_mem.1 hm)).1; omega), h.bel.trans (k.turn.below (fun i hi => by have := (h.row.lt _ (blk_mem.1 hi)).1; omega) h.bel.size)⟩
theorem Ste.next {w wr w' : World} {ps : List Value} {X : List UInt8} {v : Value} (h : Ste w wr ps X v) (k : Below wr.heap.size wr w') : Ste w w' ps X v :=
  ⟨own_turn h.row (S := []) (Turn.of_below k) (fun _ _ hm => by cases hm), h.box.next k, h.bel.trans (k.mono h.bel.size)⟩
/-- Another box lies on while bytes are written. -/
theorem Nb.box {B : Nat} {wr w' : World} {X : List UInt8} {v v' : Value} {g : Nat} {xs : List Value} (k : Nb B (blk v) wr X w' v') (h : Box wr g xs) (hg : g ∉ blk v) : Box w' g xs ∧ g ∉ blk v' :=
  ⟨h.turn k.turn hg, fun hm => by
    rcases k.own g (blk_mem.1 hm) with h1 | h1
    · exact hg h1
    · have := h.lt; omega⟩
theorem Ste.far {w wr : World} {ps : List Value} {X : List UInt8} {v : Value} (h : Ste w wr ps X v) {g : Nat} (hg : wr.heap.size ≤ g) : g ∉ blk v := fun hm => by
  have := (h.row.lt _ (blk_mem.1 hm)).2
  omega
theorem be_u64 {k : Nat} (hk : k ≤ 8) (x : Int) : beN k (IntKind.u64.wrap x) = beN k x := by
  have := beN_mod k 8 x hk
  rwa [p8, ← IntKind.wrap_u64] at this
theorem enl_drop {α : Type} (P : List UInt8) (f : α → List UInt8) (l : List α) : P ++ beN 4 (l.length : Nat) ++ (l.drop 0).flatMap f = P ++ enL f l := by rw [enL, List.drop_zero, List.append_assoc]
def kus (l : List Int) : List Value := l.map fun x => .int .u64 x
theorem pl1 (g : PgP) : (enH g).length ≤ 400000 := by rw [enH_len]; omega
theorem pl2 {g : PgP} (h : ToldP g) : (enH g ++ enL (beN 8) g.K).length ≤ 400000 := by rw [List.length_append, enH_len, enL_len (beN_len 8)]; have := h.k; omega
theorem pl3 {g : PgP} (h : ToldP g) : (enH g ++ enL (beN 8) g.K ++ enL enW g.wins).length ≤ 400000 := by rw [List.length_append, List.length_append, enH_len, enL_len (beN_len 8), enL_len enW_len]; have := h.k; have := h.wi; omega
theorem pl4 {g : PgP} (h : ToldP g) : (enH g ++ enL (beN 8) g.K ++ enL enW g.wins ++ enL enC g.crons).length ≤ 400000 := by rw [List.length_append, List.length_append, List.length_append, enH_len, enL_len (beN_len 8), enL_len enW_len, enL_len enC_len]; have := h.k; have := h.wi; have := h.cr; omega
theorem pl5 {g : PgP} (h : ToldP g) : (enH g ++ enL (beN 8) g.K ++ enL enW g.wins ++ enL enC g.crons ++ enL enI g.C).length ≤ 400000 := Nat.le_trans (told_len h) (by decide)
end Go.Proofs.YthfnjlfhaibbeaaDoor

/- Memory of which only a few blocks turn; lists of numbers as the heap holds them. -/
import Derived.Test.YtigldebdljfnbaaDoorBoxes
import Derived.OwnWalk
import Derived.ArgAppend
import Derived.Deep.RegionWith
import Derived.BigQuiet
namespace Go.Proofs.YtigldebdljfnbaaDoor
open Go.RowKit

theorem hid {p : Prop} (h : p) : Hid p := h
structure Turn (S : List Nat) (w w' : World) : Prop where
  os : w'.os = w.os
  tape : w'.tape = w.tape
  output : w'.output = w.output
  size : w.heap.size ≤ w'.heap.size
  block : ∀ k, k < w.heap.size → k ∉ S → w'.heap[k]? = w.heap[k]?
theorem Turn.refl (S : List Nat) (w : World) : Turn S w w := ⟨rfl, rfl, rfl, Nat.le_refl _, fun _ _ _ => rfl⟩
theorem Turn.of_below {S : List Nat} {w w' : World} (h : Below w.heap.size w w') : Turn S w w' := ⟨h.os, h.tape, h.output, h.size, fun k hk _ => h.block k hk⟩
theorem Turn.trans {S S' : List Nat} {a b c : World} (h : Turn S a b) (k : Turn S' b c) (hs : ∀ i, i ∈ S' → i ∈ S ∨ a.heap.size ≤ i) : Turn S a c :=
  ⟨k.os.trans h.os, k.tape.trans h.tape, k.output.trans h.output, Nat.le_trans h.size k.size, fun i hi hn => (k.block i (Nat.lt_of_lt_of_le hi h.size) (fun hm => (hs i hm).elim hn (fun e => by omega))).trans (h.block i hi hn)⟩
theorem Turn.andBelow {S : List Nat} {a b c : World} (h : Turn S a b) (k : Below b.heap.size b c) : Turn S a c := h.trans (Turn.of_below (S := []) k) (fun _ hm => by cases hm)
theorem Turn.below {S : List Nat} {w w' : World} {B : Nat} (h : Turn S w w') (hS : ∀ k, k ∈ S → B ≤ k) (hB : B ≤ w.heap.size) : Below B w w' :=
  ⟨h.os, h.tape, h.output, h.size, fun k hk => h.block k (by omega) (fun hm => by have := hS k hm; omega)⟩
theorem Turn.set {S : List Nat} (w : World) (p : Addr) (v : Value) (hp : p.block ∈ S) : Turn S w (w.setCell p v) :=
  ⟨rfl, rfl, rfl, by simp [World.setCell], fun k _ hn => Below.heap_setCell _ _ _ _ (fun e => hn (e ▸ hp))⟩
theorem Turn.andSet {S : List Nat} {a b : World} (h : Turn S a b) (p : Addr) (v : Value) (hp : p.block ∈ S ∨ a.heap.size ≤ p.block) : Turn S a (b.setCell p v) :=
  h.trans (Turn.set (S := [p.block]) b p v (by simp)) (fun i hi => by simp at hi; subst hi; exact hp)
theorem Turn.cell {S : List Nat} {w w' : World} (h : Turn S w w') {p : Addr} (hp : p.block < w.heap.size) (hn : p.block ∉ S) : w'.cell? p = w.cell? p := World.cell?_of_block (w := w) (h.block p.block hp hn)
theorem Turn.frozen {S : List Nat} {w w' : World} (h : Turn S w w') {p : Addr} (hp : p.block < w.heap.size) (hn : p.block ∉ S) : w'.frozen? p = w.frozen? p := World.frozen?_of_block (w := w) (h.block p.block hp hn)
theorem Box.turn {S : List Nat} {w w' : World} {g : Nat} {vs : List Value} (h : Box w g vs) (t : Turn S w w') (hn : g ∉ S) : Box w' g vs :=
  ⟨fun i v hv => (t.cell (p := ⟨g, i, none⟩) h.lt hn).trans (h.cell i v hv), fun i hi => (t.frozen (p := ⟨g, i, none⟩) h.lt hn).trans (h.free i hi), Nat.lt_of_lt_of_le h.lt t.size⟩
theorem Box.ofBlock {w : World} {g : Nat} {cur : Array Value} {t : TypeId} (h : w.heap[g]? = some (.cells cur t (0, 0))) : Box w g cur.toList :=
  ⟨fun i v hv => by
      have hv' : cur[i]? = some v := by simpa using hv
      simp [World.cell?, h, hv'], fun i _ => by simp [World.frozen?, h], (Array.getElem?_eq_some_iff.1 h).1⟩
theorem Box.part {w : World} {g : Nat} {vs us : List Value} (h : Box w g vs) (hp : us <+: vs) : Box w g us := by
  obtain ⟨r, rfl⟩ := hp
  refine ⟨fun i v hv => h.cell i v ?_, fun i hi => h.free i (by simp; omega), h.lt⟩
  have hi : i < us.length := (List.getElem?_eq_some_iff.1 hv).1
  rw [List.getElem?_append_left hi]
  exact hv

end Go.Proofs.YtigldebdljfnbaaDoor

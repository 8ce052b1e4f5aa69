/- Memory of which only a few blocks turn; a ring of numbers as the heap holds it. -/
import Derived.Test.YtcochjicaogofaaBoxes
namespace Go.Proofs.Ytcochjicaogofaa
open Go.RowKit

/-- Kept from the walk, as it stands. -/
theorem hid {p : Prop} (h : p) : Hid p := h
/-- Of what was there, these blocks alone may have turned. -/
structure Turn (S : List Nat) (w w' : World) : Prop where
  os : w'.os = w.os
  tape : w'.tape = w.tape
  output : w'.output = w.output
  size : w.heap.size ≤ w'.heap.size
  block : ∀ k, k < w.heap.size → k ∉ S → w'.heap[k]? = w.heap[k]?
theorem Turn.refl (S : List Nat) (w : World) : Turn S w w := ⟨rfl, rfl, rfl, Nat.le_refl _, fun _ _ _ => rfl⟩
theorem Turn.of_below {S : List Nat} {w w' : World} (h : Below w.heap.size w w') : Turn S w w' := ⟨h.os, h.tape, h.output, h.size, fun k hk _ => h.block k hk⟩
theorem Turn.trans {S S' : List Nat} {a b c : World} (h : Turn S a b) (k : Turn S' b c) (hs : ∀ i, i ∈ S' → i ∈ S ∨ a.heap.size ≤ i) : Turn S a c :=
  ⟨k.os.trans h.os, k.tape.trans h.tape, k.output.trans h.output, Nat.le_trans h.size k.size, fun i hi hn => (k.block i (Nat.lt_of_lt_of_le hi h.size) (fun hm => (hs i hm).elim hn (fun e => by omega))).trans (h.block i hi hn)⟩
theorem Turn.andBelow {S : List Nat} {a b c : World} (h : Turn S a b) (k : Below b.heap.size b c) : Turn S a c := h.trans (Turn.of_below (S := []) k) (fun _ hm => by cases hm)
theorem Turn.below {S : List Nat} {w w' : World} {B : Nat} (h : Turn S w w') (hS : ∀ k, k ∈ S → B ≤ k) (hB : B ≤ w.heap.size) : Below B w w' :=
  ⟨h.os, h.tape, h.output, h.size, fun k hk => h.block k (by omega) (fun hm => by have := hS k hm; omega)⟩
theorem Turn.set {S : List Nat} (w : World) (p : Addr) (v : Value) (hp : p.block ∈ S) : Turn S w (w.setCell p v) :=
  ⟨rfl, rfl, rfl, by simp [World.setCell], fun k _ hn => Below.heap_setCell _ _ _ _ (fun e => hn (e ▸ hp))⟩
theorem Turn.andSet {S : List Nat} {a b : World} (h : Turn S a b) (p : Addr) (v : Value) (hp : p.block ∈ S ∨ a.heap.size ≤ p.block) : Turn S a (b.setCell p v) :=
  h.trans (Turn.set (S := [p.block]) b p v (by simp)) (fun i hi => by simp at hi; subst hi; exact hp)
theorem Turn.cell {S : List Nat} {w w' : World} (h : Turn S w w') {p : Addr} (hp : p.block < w.heap.size) (hn : p.block ∉ S) : w'.cell? p = w.cell? p := World.cell?_of_block (w := w) (h.block p.block hp hn)
theorem Turn.frozen {S : List Nat} {w w' : World} (h : Turn S w w') {p : Addr} (hp : p.block < w.heap.size) (hn : p.block ∉ S) : w'.frozen? p = w.frozen? p := World.frozen?_of_block (w := w) (h.block p.block hp hn)
theorem Box.turn {S : List Nat} {w w' : World} {g : Nat} {vs : List Value} (h : Box w g vs) (t : Turn S w w') (hn : g ∉ S) : Box w' g vs :=
  ⟨fun i v hv => (t.cell (p := ⟨g, i, none⟩) h.lt hn).trans (h.cell i v hv), fun i hi => (t.frozen (p := ⟨g, i, none⟩) h.lt hn).trans (h.free i hi), Nat.lt_of_lt_of_le h.lt t.size⟩
theorem Box.four {w : World} {g : Nat} {v0 v1 v2 v3 : Value} (h : Box w g [v0, v1, v2, v3]) : w.cell? ⟨g, 0, none⟩ = some v0 ∧ w.cell? ⟨g, 1, none⟩ = some v1 ∧ w.cell? ⟨g, 2, none⟩ = some v2 ∧ w.cell? ⟨g, 3, none⟩ = some v3 ∧ w.frozen? ⟨g, 0, none⟩ = false ∧ w.frozen? ⟨g, 1, none⟩ = false ∧ w.frozen? ⟨g, 2, none⟩ = false ∧ w.frozen? ⟨g, 3, none⟩ = false :=
  ⟨h.cell 0 _ rfl, h.cell 1 _ rfl, h.cell 2 _ rfl, h.cell 3 _ rfl, h.free 0 (by simp), h.free 1 (by simp), h.free 2 (by simp), h.free 3 (by simp)⟩
theorem Box.two {w : World} {g : Nat} {v0 v1 : Value} (h : Box w g [v0, v1]) : w.cell? ⟨g, 0, none⟩ = some v0 ∧ w.cell? ⟨g, 1, none⟩ = some v1 ∧ w.frozen? ⟨g, 0, none⟩ = false ∧ w.frozen? ⟨g, 1, none⟩ = false :=
  ⟨h.cell 0 _ rfl, h.cell 1 _ rfl, h.free 0 (by simp), h.free 1 (by simp)⟩
theorem Box.ofBlock {w : World} {g : Nat} {cur : Array Value} {t : TypeId} (h : w.heap[g]? = some (.cells cur t (0, 0))) : Box w g cur.toList :=
  ⟨fun i v hv => by
      have hv' : cur[i]? = some v := by simpa using hv
      simp [World.cell?, h, hv'], fun i _ => by simp [World.frozen?, h], (Array.getElem?_eq_some_iff.1 h).1⟩
theorem Box.part {w : World} {g : Nat} {vs us : List Value} (h : Box w g vs) (hp : us <+: vs) : Box w g us := by
  obtain ⟨r, rfl⟩ := hp
  refine ⟨fun i v hv => h.cell i v ?_, fun i hi => h.free i (by simp; omega), h.lt⟩
  have hi : i < us.length := (List.getElem?_eq_some_iff.1 hv).1
  rw [List.getElem?_append_left hi]
  exact hv

/-- The slots: none yet, or a block of their own. -/
def Slots (w : World) (b q : Nat) (sv : Value) (cs : List Int) : Prop :=
  (sv = .slice none 0 0 ∧ cs = [] ∧ q = b) ∨ (sv = .slice (some ⟨q, 0, none⟩) cs.length cs.length ∧ q ≠ b ∧ 0 < cs.length ∧ Box w q (cs.map (Value.int .i64)))
/-- The block b is a ring of this room that holds L, its slots in the block q. -/
structure RingIs (w : World) (b q room first : Nat) (sv : Value) (cs L : List Int) : Prop where
  box : Box w b [.int .i64 (room : Nat), .int .i64 (first : Nat), .int .i64 (L.length : Nat), sv]
  slots : Slots w b q sv cs
  fits : L.length ≤ cs.length
  roomy : cs.length ≤ room
  inside : first < cs.length ∨ (cs = [] ∧ first = 0)
  holds : ∀ j x, L[j]? = some x → cs[(first + j) % cs.length]? = some x
def Rg (w : World) (b q room : Nat) (L : List Int) : Prop := ∃ first sv cs, RingIs w b q room first sv cs L
theorem Slots.turn {S : List Nat} {w w' : World} {b q : Nat} {sv : Value} {cs : List Int} (h : Slots w b q sv cs) (t : Turn S w w') (hq : q ∉ S) : Slots w' b q sv cs := by
  rcases h with h | ⟨e, n, z, h⟩
  · exact .inl h
  · exact .inr ⟨e, n, z, h.turn t hq⟩
theorem RingIs.turn {S : List Nat} {w w' : World} {b q room first : Nat} {sv : Value} {cs L : List Int} (h : RingIs w b q room first sv cs L) (t : Turn S w w') (hb : b ∉ S) (hq : q ∉ S) : RingIs w' b q room first sv cs L :=
  ⟨h.box.turn t hb, h.slots.turn t hq, h.fits, h.roomy, h.inside, h.holds⟩
theorem RingIs.next {w w' : World} {b q room first : Nat} {sv : Value} {cs L : List Int} (h : RingIs w b q room first sv cs L) (t : Below w.heap.size w w') : RingIs w' b q room first sv cs L :=
  h.turn (S := []) (Turn.of_below t) (by simp) (by simp)
theorem RingIs.qlt {w : World} {b q room first : Nat} {sv : Value} {cs L : List Int} (h : RingIs w b q room first sv cs L) : q < w.heap.size := by
  rcases h.slots with ⟨_, _, e⟩ | ⟨_, _, _, e⟩
  · rw [e]; exact h.box.lt
  · exact e.lt
theorem Rg.turn {S : List Nat} {w w' : World} {b q room : Nat} {L : List Int} (h : Rg w b q room L) (t : Turn S w w') (hb : b ∉ S) (hq : q ∉ S) : Rg w' b q room L := by
  obtain ⟨f, s, c, h⟩ := h
  exact ⟨f, s, c, h.turn t hb hq⟩
theorem Rg.next {w w' : World} {b q room : Nat} {L : List Int} (h : Rg w b q room L) (t : Below w.heap.size w w') : Rg w' b q room L := h.turn (S := []) (Turn.of_below t) (by simp) (by simp)
theorem Rg.lt {w : World} {b q room : Nat} {L : List Int} (h : Rg w b q room L) : b < w.heap.size := by obtain ⟨f, s, c, h⟩ := h; exact h.box.lt
theorem Rg.qlt {w : World} {b q room : Nat} {L : List Int} (h : Rg w b q room L) : q < w.heap.size := by obtain ⟨f, s, c, h⟩ := h; exact h.qlt
theorem Rg.len {w : World} {b q room : Nat} {L : List Int} (h : Rg w b q room L) : L.length ≤ room := by obtain ⟨f, s, c, h⟩ := h; exact Nat.le_trans h.fits h.roomy
/-- A ring by its pointer; nil is one without room. -/
def RgP (w : World) (p : Option Addr) (room : Nat) (L : List Int) : Prop := (p = none ∧ room = 0 ∧ L = []) ∨ ∃ b q, p = some ⟨b, 0, none⟩ ∧ Rg w b q room L
theorem RgP.next {w w' : World} {p : Option Addr} {room : Nat} {L : List Int} (h : RgP w p room L) (t : Below w.heap.size w w') : RgP w' p room L := by
  rcases h with h | ⟨b, q, e, h⟩
  · exact .inl h
  · exact .inr ⟨b, q, e, h.next t⟩
/-- The slot of the number j, as a number below the count of the slots. -/
theorem slot_lt {first n : Nat} (j : Nat) (h : 0 < n) : (first + j) % n < n := Nat.mod_lt _ h
theorem tmod_slot (first j n : Nat) : ((first : Int) + (j : Int)).tmod (n : Int) = (((first + j) % n : Nat) : Int) := by
  rw [Int.tmod_eq_emod_of_nonneg (by omega), Int.natCast_emod, Int.natCast_add]
/-- What is put behind the newest. -/
theorem RingIs.put {w w' : World} {b q room first : Nat} {cs L : List Int} (h : RingIs w b q room first (.slice (some ⟨q, 0, none⟩) cs.length cs.length) cs L) (hl : L.length < cs.length) (v : Int)
    (hw : w' = (w.setCell ⟨q, (first + L.length) % cs.length, none⟩ (.int .i64 v)).setCell ⟨b, 2, none⟩ (.int .i64 ((L.length + 1 : Nat) : Int))) :
    RingIs w' b q room first (.slice (some ⟨q, 0, none⟩) cs.length cs.length) (cs.set ((first + L.length) % cs.length) v) (L ++ [v]) := by
  subst hw
  obtain ⟨hbox, hslots, hfit, hroom, hin, hold⟩ := h
  have hn : 0 < cs.length := by omega
  rcases hslots with ⟨e, _, _⟩ | ⟨_, hqb, _, hq⟩
  · cases e
  refine ⟨?_, .inr ⟨by simp, hqb, by simpa using hn, ?_⟩, by simp; omega, by simpa using hroom, .inl (by rcases hin with h | ⟨h, _⟩; (· simpa using h); (· rw [h] at hn; simp at hn)), ?_⟩
  · have := (hbox.other (v := .int .i64 v) (j := (first + L.length) % cs.length) (Ne.symm hqb)).set 2 (by simp) (.int .i64 ((L.length + 1 : Nat) : Int))
    simpa using this
  · have := (hq.set ((first + L.length) % cs.length) (by simpa using slot_lt _ hn) (.int .i64 v)).other (j := 2) (v := .int .i64 ((L.length + 1 : Nat) : Int)) hqb
    simpa [List.map_set] using this
  · intro j x hj
    have hf : first < cs.length := by rcases hin with h | ⟨h, _⟩; (· exact h); (· rw [h] at hn; simp at hn)
    simp only [List.length_set]
    by_cases hjl : j < L.length
    · rw [List.getElem?_append_left hjl] at hj
      have h1 := hold j x hj
      have hne : (first + L.length) % cs.length ≠ (first + j) % cs.length := by
        intro e
        have a1 : (first + L.length) % cs.length = if first + L.length < cs.length then first + L.length else first + L.length - cs.length := by
          split
          · exact Nat.mod_eq_of_lt (by omega)
          · rw [Nat.mod_eq_sub_mod (by omega)]; exact Nat.mod_eq_of_lt (by omega)
        have a2 : (first + j) % cs.length = if first + j < cs.length then first + j else first + j - cs.length := by
          split
          · exact Nat.mod_eq_of_lt (by omega)
          · rw [Nat.mod_eq_sub_mod (by omega)]; exact Nat.mod_eq_of_lt (by omega)
        rw [a1, a2] at e
        split at e <;> split at e <;> omega
      rw [List.getElem?_set_ne hne]
      exact h1
    · have : j < (L ++ [v]).length := (List.getElem?_eq_some_iff.1 hj).1
      simp at this
      obtain rfl : j = L.length := by omega
      simp at hj
      subst hj
      rw [List.getElem?_set_self (slot_lt _ hn)]
/-- What is left when the oldest has gone. -/
theorem RingIs.drop {w w' : World} {b q room first : Nat} {cs L : List Int} {x : Int} (h : RingIs w b q room first (.slice (some ⟨q, 0, none⟩) cs.length cs.length) cs (x :: L)) (z : Int)
    (hw : w' = ((w.setCell ⟨q, first, none⟩ (.int .i64 z)).setCell ⟨b, 1, none⟩ (.int .i64 (((first + 1) % cs.length : Nat) : Int))).setCell ⟨b, 2, none⟩ (.int .i64 (L.length : Nat))) :
    RingIs w' b q room ((first + 1) % cs.length) (.slice (some ⟨q, 0, none⟩) cs.length cs.length) (cs.set first z) L := by
  subst hw
  obtain ⟨hbox, hslots, hfit, hroom, hin, hold⟩ := h
  simp at hfit
  have hn : 0 < cs.length := by omega
  have hf : first < cs.length := by rcases hin with h | ⟨h, _⟩; (· exact h); (· rw [h] at hn; simp at hn)
  rcases hslots with ⟨e, _, _⟩ | ⟨_, hqb, _, hq⟩
  · cases e
  refine ⟨?_, .inr ⟨by simp, hqb, by simpa using hn, ?_⟩, by simp; omega, by simpa using hroom, .inl (by simpa using slot_lt _ hn), ?_⟩
  · have := ((hbox.other (v := .int .i64 z) (j := first) (Ne.symm hqb)).set 1 (by simp) (.int .i64 (((first + 1) % cs.length : Nat) : Int))).set 2 (by simp) (.int .i64 (L.length : Nat))
    simpa using this
  · have := ((hq.set first (by simpa using hf) (.int .i64 z)).other (j := 1) (v := .int .i64 (((first + 1) % cs.length : Nat) : Int)) hqb).other (j := 2) (v := .int .i64 (L.length : Nat)) hqb
    simpa [List.map_set] using this
  · intro j y hj
    have h1 := hold (j + 1) y (by simpa using hj)
    have hjl : j < L.length := (List.getElem?_eq_some_iff.1 hj).1
    have e : ((first + 1) % cs.length + j) % cs.length = (first + (j + 1)) % cs.length := by
      rw [Nat.mod_add_mod]; congr 1; omega
    simp only [List.length_set]
    rw [e]
    have hne : first ≠ (first + (j + 1)) % cs.length := by
      intro e'
      have a2 : (first + (j + 1)) % cs.length = if first + (j + 1) < cs.length then first + (j + 1) else first + (j + 1) - cs.length := by
        split
        · exact Nat.mod_eq_of_lt (by omega)
        · rw [Nat.mod_eq_sub_mod (by omega)]; exact Nat.mod_eq_of_lt (by omega)
      rw [a2] at e'
      split at e' <;> omega
    rw [List.getElem?_set_ne hne]
    exact h1
/-- With new slots, the oldest in the first. -/
theorem RingIs.grown {w w1 w' : World} {b q g room first : Nat} {sv : Value} {cs L ds : List Int} (h : RingIs w b q room first sv cs L) (t : Turn [g] w w1) (hg : w.heap.size ≤ g) (hbox : Box w1 g ((L ++ ds).map (Value.int .i64))) (hd : 0 < (L ++ ds).length) (hr : (L ++ ds).length ≤ room)
    (hw : w' = (w1.setCell ⟨b, 3, none⟩ (.slice (some ⟨g, 0, none⟩) (L ++ ds).length (L ++ ds).length)).setCell ⟨b, 1, none⟩ (.int .i64 0)) :
    RingIs w' b g room 0 (.slice (some ⟨g, 0, none⟩) (L ++ ds).length (L ++ ds).length) (L ++ ds) L := by
  subst hw
  have hgb : g ≠ b := by have := h.box.lt; omega
  refine ⟨?_, .inr ⟨rfl, hgb, hd, (hbox.other hgb).other hgb⟩, by simp, hr, .inl hd, ?_⟩
  · have := ((h.box.turn t (by simpa using Ne.symm hgb)).set 3 (by simp) (.slice (some ⟨g, 0, none⟩) (L ++ ds).length (L ++ ds).length)).set 1 (by simp) (.int .i64 0)
    simpa using this
  · intro j x hj
    have hjl : j < L.length := (List.getElem?_eq_some_iff.1 hj).1
    rw [Nat.zero_add, Nat.mod_eq_of_lt (by simp; omega), List.getElem?_append_left hjl]
    exact hj
end Go.Proofs.Ytcochjicaogofaa

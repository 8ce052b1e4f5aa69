/- Memory of which only a few blocks turn; lists of numbers as the heap holds them. -/
import Derived.Test.YthfnjlfhaibbeaaDoorBoxes
import Derived.OwnWalk
import Derived.ArgAppend
import Derived.Deep.RegionWith
import Derived.BigQuiet
namespace Go.Proofs.YthfnjlfhaibbeaaDoor
open Go.RowKit

/-- Kept from the walk, as it stands. -/
theorem hid {p : Prop} (h : p) : Hid p := h
/-- Of what was there, these blocks alone may have turned. -/
structure Turn (S : List Nat) (w w' : World) : Prop where
  os : w'.os = w.os
  tape : w'.tape = w.tape
  output : w'.output = w.output
  size : w.heap.size ≤ w'.heap.size
  block : ∀ k, k < w.heap.size → k ∉ S → w'.heap[k]? = w.heap[k]?
theorem Turn.refl (S : List Nat) (w : World) : Turn S w w := ⟨rfl, rfl, rfl, Nat.le_refl _, fun _ _ _ => rfl⟩
theorem Turn.of_below {S : List Nat} {w w' : World} (h : Below w.heap.size w w') : Turn S w w' := ⟨h.os, h.tape, h.output, h.size, fun k hk _ => h.block k hk⟩
theorem Turn.trans {S S' : List Nat} {a b c : World} (h : Turn S a b) (k : Turn S' b c) (hs : ∀ i, i ∈ S' → i ∈ S ∨ a.heap.size ≤ i) : Turn S a c :=
  ⟨k.os.trans h.os, k.tape.trans h.tape, k.output.trans h.output, Nat.le_trans h.size k.size, fun i hi hn => (k.block i (Nat.lt_of_lt_of_le hi h.size) (fun hm => (hs i hm).elim hn (fun e => by omega))).trans (h.block i hi hn)⟩
theorem Turn.andBelow {S : List Nat} {a b c : World} (h : Turn S a b) (k : Below b.heap.size b c) : Turn S a c := h.trans (Turn.of_below (S := []) k) (fun _ hm => by cases hm)
theorem Turn.below {S : List Nat} {w w' : World} {B : Nat} (h : Turn S w w') (hS : ∀ k, k ∈ S → B ≤ k) (hB : B ≤ w.heap.size) : Below B w w' :=
  ⟨h.os, h.tape, h.output, h.size, fun k hk => h.block k (by omega) (fun hm => by have := hS k hm; omega)⟩
theorem Turn.set {S : List Nat} (w : World) (p : Addr) (v : Value) (hp : p.block ∈ S) : Turn S w (w.setCell p v) :=
  ⟨rfl, rfl, rfl, by simp [World.setCell], fun k _ hn => Below.heap_setCell _ _ _ _ (fun e => hn (e ▸ hp))⟩
theorem Turn.andSet {S : List Nat} {a b : World} (h : Turn S a b) (p : Addr) (v : Value) (hp : p.block ∈ S ∨ a.heap.size ≤ p.block) : Turn S a (b.setCell p v) :=
  h.trans (Turn.set (S := [p.block]) b p v (by simp)) (fun i hi => by simp at hi; subst hi; exact hp)
theorem Turn.cell {S : List Nat} {w w' : World} (h : Turn S w w') {p : Addr} (hp : p.block < w.heap.size) (hn : p.block ∉ S) : w'.cell? p = w.cell? p := World.cell?_of_block (w := w) (h.block p.block hp hn)
theorem Turn.frozen {S : List Nat} {w w' : World} (h : Turn S w w') {p : Addr} (hp : p.block < w.heap.size) (hn : p.block ∉ S) : w'.frozen? p = w.frozen? p := World.frozen?_of_block (w := w) (h.block p.block hp hn)
theorem Box.turn {S : List Nat} {w w' : World} {g : Nat} {vs : List Value} (h : Box w g vs) (t : Turn S w w') (hn : g ∉ S) : Box w' g vs :=
  ⟨fun i v hv => (t.cell (p := ⟨g, i, none⟩) h.lt hn).trans (h.cell i v hv), fun i hi => (t.frozen (p := ⟨g, i, none⟩) h.lt hn).trans (h.free i hi), Nat.lt_of_lt_of_le h.lt t.size⟩
theorem Box.four {w : World} {g : Nat} {v0 v1 v2 v3 : Value} (h : Box w g [v0, v1, v2, v3]) : w.cell? ⟨g, 0, none⟩ = some v0 ∧ w.cell? ⟨g, 1, none⟩ = some v1 ∧ w.cell? ⟨g, 2, none⟩ = some v2 ∧ w.cell? ⟨g, 3, none⟩ = some v3 ∧ w.frozen? ⟨g, 0, none⟩ = false ∧ w.frozen? ⟨g, 1, none⟩ = false ∧ w.frozen? ⟨g, 2, none⟩ = false ∧ w.frozen? ⟨g, 3, none⟩ = false :=
  ⟨h.cell 0 _ rfl, h.cell 1 _ rfl, h.cell 2 _ rfl, h.cell 3 _ rfl, h.free 0 (by simp), h.free 1 (by simp), h.free 2 (by simp), h.free 3 (by simp)⟩
theorem Box.two {w : World} {g : Nat} {v0 v1 : Value} (h : Box w g [v0, v1]) : w.cell? ⟨g, 0, none⟩ = some v0 ∧ w.cell? ⟨g, 1, none⟩ = some v1 ∧ w.frozen? ⟨g, 0, none⟩ = false ∧ w.frozen? ⟨g, 1, none⟩ = false :=
  ⟨h.cell 0 _ rfl, h.cell 1 _ rfl, h.free 0 (by simp), h.free 1 (by simp)⟩
theorem Box.ofBlock {w : World} {g : Nat} {cur : Array Value} {t : TypeId} (h : w.heap[g]? = some (.cells cur t (0, 0))) : Box w g cur.toList :=
  ⟨fun i v hv => by
      have hv' : cur[i]? = some v := by simpa using hv
      simp [World.cell?, h, hv'], fun i _ => by simp [World.frozen?, h], (Array.getElem?_eq_some_iff.1 h).1⟩
theorem Box.part {w : World} {g : Nat} {vs us : List Value} (h : Box w g vs) (hp : us <+: vs) : Box w g us := by
  obtain ⟨r, rfl⟩ := hp
  refine ⟨fun i v hv => h.cell i v ?_, fun i hi => h.free i (by simp; omega), h.lt⟩
  have hi : i < us.length := (List.getElem?_eq_some_iff.1 hv).1
  rw [List.getElem?_append_left hi]
  exact hv

theorem heap_new (w : World) (o : Obj) : (w.alloc o).heap[w.heap.size]? = some o := by show (w.heap.push o)[w.heap.size]? = some o; simp
/-- A list of numbers as cells. -/
def ints (l : List Int) : List Value := l.map (Value.int .i64)
theorem box_cell {w : World} {g : Nat} {l : List Int} (h : Box w g (ints l)) {i : Nat} {x : Int} (hx : l[i]? = some x) : w.cell? ⟨g, i, none⟩ = some (.int .i64 x) := h.cell i _ (by simp [ints, hx])
theorem box_free {w : World} {g : Nat} {l : List Int} (h : Box w g (ints l)) {i : Nat} (hi : i < l.length) : w.frozen? ⟨g, i, none⟩ = false := h.free i (by simpa [ints] using hi)
theorem box_put {w : World} {g : Nat} {l : List Int} (h : Box w g (ints l)) {i : Nat} (hi : i < l.length) (x : Int) : Box (w.setCell ⟨g, i, none⟩ (.int .i64 x)) g (ints (l.set i x)) := by
  have := h.set i (by simpa [ints] using hi) (.int .i64 x)
  simpa [ints, List.map_set] using this
/-- The block g is this list of numbers, no more and no less. -/
def Blk (w : World) (g : Nat) (l : List Int) : Prop := w.heap[g]? = some (.cells (ints l).toArray 2 (0, 0))
theorem Blk.box {w : World} {g : Nat} {l : List Int} (h : Blk w g l) : Box w g (ints l) := by simpa using Box.ofBlock h
theorem Blk.lt {w : World} {g : Nat} {l : List Int} (h : Blk w g l) : g < w.heap.size := (Array.getElem?_eq_some_iff.1 h).1
theorem Blk.put {w : World} {g : Nat} {l : List Int} (h : Blk w g l) (i : Nat) (x : Int) : Blk (w.setCell ⟨g, i, none⟩ (.int .i64 x)) g (l.set i x) := by
  obtain ⟨hlt, hk⟩ := Array.getElem?_eq_some_iff.1 h
  show (w.heap.modify g _)[g]? = _
  rw [Array.getElem?_eq_getElem (by rw [Array.size_modify]; exact hlt), Array.getElem_modify_self, hk]
  simp [ints, List.map_set]
theorem Blk.turn {S : List Nat} {w w' : World} {g : Nat} {l : List Int} (h : Blk w g l) (t : Turn S w w') (hn : g ∉ S) : Blk w' g l := (t.block g h.lt hn).trans h
theorem Blk.next {w w' : World} {g : Nat} {l : List Int} (h : Blk w g l) (t : Below w.heap.size w w') : Blk w' g l := (t.block g h.lt).trans h
theorem Blk.alike {w w' : World} {g : Nat} {l : List Int} (h : Blk w g l) (e : w'.heap = w.heap) : Blk w' g l := by unfold Blk; rw [e]; exact h
theorem Box.alike {w w' : World} {g : Nat} {vs : List Value} (h : Box w g vs) (e : w'.heap = w.heap) : Box w' g vs :=
  ⟨fun i v hv => (World.cell?_of_block (by rw [e])).trans (h.cell i v hv), fun i hi => (World.frozen?_of_block (by rw [e])).trans (h.free i hi), by rw [e]; exact h.lt⟩
theorem drewN_turn (S : List Nat) (w : World) (k : Nat) : Turn S w (w.drewN k) := ⟨rfl, rfl, rfl, Nat.le_refl _, fun _ _ _ => rfl⟩
theorem take_set {L xs : List Int} {k : Nat} {x : Int} (hx : L[k]? = some x) (hk : k < xs.length) : (L.take k ++ xs.drop k).set k x = L.take (k + 1) ++ xs.drop (k + 1) := by
  have hkl : k < L.length := (List.getElem?_eq_some_iff.1 hx).1
  have h1 : (L.take k).length = k := by simp; omega
  rw [List.drop_eq_getElem_cons hk, List.set_append_right _ _ (by omega), h1, Nat.sub_self, List.set_cons_zero, List.take_add_one, hx]
  simp

/-- What a list is that was made for the call's answer: new memory, with these numbers. -/
def NewList (w : World) (L : List Int) (e : Ending) (w' : World) : Prop := ∃ g, e = .returned (.slice (some ⟨g, 0, none⟩) L.length L.length) ∧ w.heap.size ≤ g ∧ Blk w' g L ∧ Below w.heap.size w w'
theorem info_i64 : (Tryd.prog.info? 2).map (fun i => (i.zero, i.size, i.bytes)) = some (some (.int .i64 0), 1, 8) := by kernel_rfl
theorem madeCells_one (z : Value) (n : Nat) (hz : z.cells = #[z]) : (madeCells z.cells (n * 1)).toList = List.replicate n z := by
  apply List.ext_getElem
  · simp [madeCells]
  · intro i h1 h2
    simp [madeCells, hz, Nat.mod_one]
theorem blk_made {w w' : World} {n : Nat} {base : Nat} (h : w'.ownsRow base 2 1 (.slice (some ⟨w.heap.size, 0, none⟩) n n) n (madeCells (Value.int .i64 0).cells (n * 1)).toList) : Blk w' w.heap.size (List.replicate n 0) := by
  obtain ⟨hl, ⟨e, _⟩ | ⟨g, cap, cur, e, hb, hg, _, _, hs, ht⟩⟩ := h
  · cases e
  · cases e
    rw [madeCells_one _ _ (by rfl)] at ht
    rw [List.take_of_length_le (by simp [hs])] at ht
    show _ = some (Obj.cells (ints (List.replicate n 0)).toArray _ _)
    obtain rfl : cur = (List.replicate n (Value.int .i64 0)).toArray := by rw [← ht]
    rw [hg]
    simp [ints]

/-- The block g holds L from off on, and has room for cap numbers there. -/
structure SlAt (w : World) (g off cap : Nat) (L : List Int) : Prop where
  lt : g < w.heap.size
  cell : ∀ i x, L[i]? = some x → w.cell? ⟨g, off + i, none⟩ = some (.int .i64 x)
  spare : ∀ i, i < cap → (w.cell? ⟨g, off + i, none⟩).isSome = true
  free : ∀ i, i < cap → w.frozen? ⟨g, off + i, none⟩ = false
  le : L.length ≤ cap
  most : cap ≤ maxLen
/-- The value lv is a slice of the list L, in the block g. -/
def Sl (w : World) (g : Nat) (lv : Value) (L : List Int) : Prop := (lv = .slice none 0 0 ∧ L = [] ∧ g < w.heap.size) ∨ ∃ off cap, lv = .slice (some ⟨g, off, none⟩) L.length cap ∧ SlAt w g off cap L
theorem SlAt.turn {S : List Nat} {w w' : World} {g off cap : Nat} {L : List Int} (h : SlAt w g off cap L) (t : Turn S w w') (hn : g ∉ S) : SlAt w' g off cap L :=
  ⟨Nat.lt_of_lt_of_le h.lt t.size, fun i x hx => (t.cell (p := ⟨g, off + i, none⟩) h.lt hn).trans (h.cell i x hx), fun i hi => by rw [t.cell (p := ⟨g, off + i, none⟩) h.lt hn]; exact h.spare i hi, fun i hi => (t.frozen (p := ⟨g, off + i, none⟩) h.lt hn).trans (h.free i hi), h.le, h.most⟩
theorem Sl.turn {S : List Nat} {w w' : World} {g : Nat} {lv : Value} {L : List Int} (h : Sl w g lv L) (t : Turn S w w') (hn : g ∉ S) : Sl w' g lv L := by
  rcases h with ⟨a, b, c⟩ | ⟨off, cap, e, h⟩
  · exact .inl ⟨a, b, Nat.lt_of_lt_of_le c t.size⟩
  · exact .inr ⟨off, cap, e, h.turn t hn⟩
theorem Sl.next {w w' : World} {g : Nat} {lv : Value} {L : List Int} (h : Sl w g lv L) (t : Below w.heap.size w w') : Sl w' g lv L := h.turn (S := []) (Turn.of_below t) (by simp)
theorem Sl.lt {w : World} {g : Nat} {lv : Value} {L : List Int} (h : Sl w g lv L) : g < w.heap.size := by
  rcases h with ⟨a, b, c⟩ | ⟨off, cap, e, h⟩
  · exact c
  · exact h.lt
theorem slAt_of_box {w : World} {g cap : Nat} {L : List Int} {vs : List Value} (h : Box w g vs) (hv : vs.length = cap) (hp : ints L <+: vs) (hm : cap ≤ maxLen) : SlAt w g 0 cap L := by
  have hlen : (ints L).length = L.length := by simp [ints]
  obtain ⟨r, rfl⟩ := hp
  refine ⟨h.lt, fun i x hx => ?_, fun i hi => ?_, fun i hi => ?_, by simp [ints] at hv; omega, hm⟩
  · have hi : i < L.length := (List.getElem?_eq_some_iff.1 hx).1
    rw [Nat.zero_add]
    exact h.cell i _ (by rw [List.getElem?_append_left (by omega)]; simp [ints, hx])
  · rw [Nat.zero_add, h.cell i _ (List.getElem?_eq_getElem (by omega))]; rfl
  · rw [Nat.zero_add]; exact h.free i (by omega)
theorem SlAt.snoc {w : World} {g off cap : Nat} {L : List Int} (h : SlAt w g off cap L) (y : Int) (hl : L.length < cap) : SlAt (w.setCell ⟨g, off + L.length, none⟩ (.int .i64 y)) g off cap (L ++ [y]) := by
  have hs := h.spare L.length hl
  refine ⟨by simpa [World.setCell] using h.lt, fun i x hx => ?_, fun i hi => ?_, fun i hi => (World.frozen?_setCell _ _ _ _).trans (h.free i hi), by simp; omega, h.most⟩
  · by_cases hi : i < L.length
    · rw [List.getElem?_append_left hi] at hx
      exact (World.cell?_setCell_other _ _ _ _ (by intro e; have := congrArg Addr.off e; simp at this; omega)).trans (h.cell i x hx)
    · have : i < (L ++ [y]).length := (List.getElem?_eq_some_iff.1 hx).1
      simp at this
      obtain rfl : i = L.length := by omega
      simp at hx
      subst hx
      obtain ⟨u, hu⟩ := Option.isSome_iff_exists.1 hs
      exact World.cell?_setCell_same _ _ _ hu
  · by_cases e : i = L.length
    · subst e
      obtain ⟨u, hu⟩ := Option.isSome_iff_exists.1 hs
      rw [World.cell?_setCell_same _ _ _ hu]; rfl
    · rw [World.cell?_setCell_other _ _ _ _ (by intro e'; have := congrArg Addr.off e'; simp at this; omega)]
      exact h.spare i hi
theorem Sl.shape {w : World} {g : Nat} {lv : Value} {L : List Int} (h : Sl w g lv L) : ∃ a c, lv = .slice a L.length c := by
  rcases h with ⟨rfl, rfl, _⟩ | ⟨off, cap, e, _⟩
  · exact ⟨none, 0, rfl⟩
  · exact ⟨_, _, e⟩
/-- The value v is a slice that reads as the list A. -/
def Rd (w : World) (v : Value) (A : List Int) : Prop := ∃ (a : Option Addr) (c : Nat), v = .slice a A.length c ∧ (A = [] ∨ ∃ g off, a = some ⟨g, off, none⟩ ∧ g < w.heap.size ∧ ∀ i x, A[i]? = some x → w.cell? ⟨g, off + i, none⟩ = some (.int .i64 x))
theorem Rd.next {w w' : World} {v : Value} {A : List Int} (h : Rd w v A) (t : Below w.heap.size w w') : Rd w' v A := by
  obtain ⟨a, c, e, h | ⟨g, off, e2, hg, h⟩⟩ := h
  · exact ⟨a, c, e, .inl h⟩
  · exact ⟨a, c, e, .inr ⟨g, off, e2, Nat.lt_of_lt_of_le hg t.size, fun i x hx => (t.cell (p := ⟨g, off + i, none⟩) hg).trans (h i x hx)⟩⟩
theorem Sl.rd {w : World} {g : Nat} {lv : Value} {L : List Int} (h : Sl w g lv L) : Rd w lv L := by
  rcases h with ⟨rfl, rfl, _⟩ | ⟨off, cap, rfl, h⟩
  · exact ⟨none, 0, rfl, .inl rfl⟩
  · exact ⟨_, cap, rfl, .inr ⟨g, off, rfl, h.lt, h.cell⟩⟩
theorem Blk.rd {w : World} {g : Nat} {L : List Int} (h : Blk w g L) (c : Nat) : Rd w (.slice (some ⟨g, 0, none⟩) L.length c) L := ⟨_, c, rfl, .inr ⟨g, 0, rfl, h.lt, fun i x hx => by rw [Nat.zero_add]; exact box_cell h.box hx⟩⟩
theorem drewN_below (w : World) (k : Nat) : Below w.heap.size w (w.drewN k) := ⟨rfl, rfl, rfl, Nat.le_refl _, fun _ _ => rfl⟩
theorem Rd.alike {w w' : World} {v : Value} {A : List Int} (h : Rd w v A) (e : w'.heap = w.heap) : Rd w' v A := by
  obtain ⟨a, c, e1, h | ⟨g, off, e2, hg, h⟩⟩ := h
  · exact ⟨a, c, e1, .inl h⟩
  · exact ⟨a, c, e1, .inr ⟨g, off, e2, by rw [e]; exact hg, fun i x hx => (World.cell?_of_block (by rw [e])).trans (h i x hx)⟩⟩
theorem Rd.cut {w : World} {g off cap k : Nat} {L : List Int} (h : SlAt w g off cap L) (m c : Nat) (hm : m = (L.take k).length) : Rd w (.slice (some ⟨g, off, none⟩) m c) (L.take k) := by
  subst hm
  refine ⟨_, c, rfl, .inr ⟨g, off, rfl, h.lt, fun i x hx => h.cell i x ?_⟩⟩
  have hi : i < (L.take k).length := (List.getElem?_eq_some_iff.1 hx).1
  rw [List.getElem?_take_of_lt (by simp at hi; omega)] at hx
  exact hx
theorem Blk.sl {w : World} {g : Nat} {l : List Int} (h : Blk w g l) (hl : l.length ≤ maxLen) : Sl w g (.slice (some ⟨g, 0, none⟩) l.length l.length) l := .inr ⟨0, l.length, rfl, slAt_of_box h.box (by simp [ints]) (List.prefix_refl _) hl⟩
end Go.Proofs.YthfnjlfhaibbeaaDoor

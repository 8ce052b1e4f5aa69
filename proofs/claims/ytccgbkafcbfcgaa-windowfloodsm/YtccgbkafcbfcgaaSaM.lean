/- A ring of samples as the heap holds it. -/
import Derived.Test.YtccgbkafcbfcgaaMoM
namespace Go.Proofs.Ytccgbkafcbfcgaa
open Go.RowKit

/-- A sample: a time and a value. -/
abbrev Pr := Int × Int
/-- Pairs as cells. -/
def prs : List Pr → List Value
  | [] => []
  | p :: r => .int .i64 p.1 :: .int .i64 p.2 :: prs r
/-- The pair that nothing was put into. -/
def pz : Pr := (0, 0)
theorem prs_length (l : List Pr) : (prs l).length = l.length * 2 := by
  induction l with
  | nil => rfl
  | cons p r ih => simp only [prs, List.length_cons, ih]; omega
theorem prs_zero {l : List Pr} {k : Nat} {p : Pr} (h : l[k]? = some p) : (prs l)[k * 2]? = some (.int .i64 p.1) := by
  induction l generalizing k with
  | nil => simp at h
  | cons x r ih =>
    cases k with
    | zero => simp at h; subst h; rfl
    | succ k => rw [show (k + 1) * 2 = k * 2 + 1 + 1 by omega]; simpa [prs] using ih (by simpa using h)
theorem prs_one {l : List Pr} {k : Nat} {p : Pr} (h : l[k]? = some p) : (prs l)[k * 2 + 1]? = some (.int .i64 p.2) := by
  induction l generalizing k with
  | nil => simp at h
  | cons x r ih =>
    cases k with
    | zero => simp at h; subst h; rfl
    | succ k => rw [show (k + 1) * 2 + 1 = k * 2 + 1 + 1 + 1 by omega]; simpa [prs] using ih (by simpa using h)
theorem prs_set {l : List Pr} {k : Nat} (hk : k < l.length) (p : Pr) : prs (l.set k p) = ((prs l).set (k * 2) (.int .i64 p.1)).set (k * 2 + 1) (.int .i64 p.2) := by
  induction l generalizing k with
  | nil => simp at hk
  | cons x r ih =>
    cases k with
    | zero => rfl
    | succ k => rw [show (k + 1) * 2 = k * 2 + 1 + 1 by omega]; simp only [List.set_cons_succ, prs]; rw [ih (by simpa using hk)]
theorem prs_append (l r : List Pr) : prs (l ++ r) = prs l ++ prs r := by
  induction l with
  | nil => rfl
  | cons p l ih => simp [prs, ih]
theorem prs_replicate (n : Nat) : prs (List.replicate n pz) = (madeCells (Value.agg #[.int .i64 0, .int .i64 0]).cells (n * 2)).toList := by
  apply List.ext_getElem
  · rw [prs_length]; simp [madeCells]
  · intro i h1 h2
    have hi : i < n * 2 := by rw [prs_length] at h1; simpa using h1
    have hc : (Value.agg #[.int .i64 0, .int .i64 0]).cells = #[.int .i64 0, .int .i64 0] := by rfl
    obtain ⟨k, hk | hk⟩ : ∃ k, i = k * 2 ∨ i = k * 2 + 1 := ⟨i / 2, by omega⟩
    · subst hk
      have h3 := prs_zero (l := List.replicate n pz) (k := k) (p := pz) (by rw [List.getElem?_replicate, if_pos (by omega)])
      rw [List.getElem?_eq_getElem h1] at h3
      simp only [Option.some.injEq] at h3
      rw [h3]
      simp [madeCells, hc, pz]
    · subst hk
      have h3 := prs_one (l := List.replicate n pz) (k := k) (p := pz) (by rw [List.getElem?_replicate, if_pos (by omega)])
      rw [List.getElem?_eq_getElem h1] at h3
      simp only [Option.some.injEq] at h3
      rw [h3]
      simp [madeCells, hc, pz, Nat.add_mod]
theorem boxq_put {w : World} {g : Nat} {l : List Pr} (h : Box w g (prs l)) {k : Nat} (hk : k < l.length) (p : Pr) : Box ((w.setCell ⟨g, k * 2, none⟩ (.int .i64 p.1)).setCell ⟨g, k * 2 + 1, none⟩ (.int .i64 p.2)) g (prs (l.set k p)) := by
  rw [prs_set hk]
  exact (h.set (k * 2) (by rw [prs_length]; omega) _).set (k * 2 + 1) (by rw [List.length_set, prs_length]; omega) _
theorem boxq_cell {w : World} {g : Nat} {l : List Pr} (h : Box w g (prs l)) {k : Nat} {p : Pr} (hp : l[k]? = some p) : w.cell? ⟨g, k * 2, none⟩ = some (.int .i64 p.1) ∧ w.cell? ⟨g, k * 2 + 1, none⟩ = some (.int .i64 p.2) ∧ w.frozen? ⟨g, k * 2, none⟩ = false ∧ w.frozen? ⟨g, k * 2 + 1, none⟩ = false := by
  have hk : k < l.length := (List.getElem?_eq_some_iff.1 hp).1
  exact ⟨h.cell _ _ (prs_zero hp), h.cell _ _ (prs_one hp), h.free _ (by rw [prs_length]; omega), h.free _ (by rw [prs_length]; omega)⟩

/-- The slot of the number j, as a number below the count of the slots. -/
theorem slot_lt {first n : Nat} (j : Nat) (h : 0 < n) : (first + j) % n < n := Nat.mod_lt _ h
/-- The slots: none yet, or a block of their own. -/
def SlotsQ (w : World) (b q : Nat) (sv : Value) (cs : List Pr) : Prop :=
  (sv = .slice none 0 0 ∧ cs = [] ∧ q = b) ∨ (sv = .slice (some ⟨q, 0, none⟩) cs.length cs.length ∧ q ≠ b ∧ 0 < cs.length ∧ Box w q (prs cs))
/-- The block b is a ring of this room that holds L, its slots in the block q. -/
structure RqIs (w : World) (b q room first : Nat) (sv : Value) (cs L : List Pr) : Prop where
  box : Box w b [.int .i64 (room : Nat), .int .i64 (first : Nat), .int .i64 (L.length : Nat), sv]
  slots : SlotsQ w b q sv cs
  fits : L.length ≤ cs.length
  roomy : cs.length ≤ room
  inside : first < cs.length ∨ (cs = [] ∧ first = 0)
  holds : ∀ j x, L[j]? = some x → cs[(first + j) % cs.length]? = some x
def Rq (w : World) (b q room : Nat) (L : List Pr) : Prop := ∃ first sv cs, RqIs w b q room first sv cs L
theorem SlotsQ.turn {S : List Nat} {w w' : World} {b q : Nat} {sv : Value} {cs : List Pr} (h : SlotsQ w b q sv cs) (t : Turn S w w') (hq : q ∉ S) : SlotsQ w' b q sv cs := by
  rcases h with h | ⟨e, n, z, h⟩
  · exact .inl h
  · exact .inr ⟨e, n, z, h.turn t hq⟩
theorem RqIs.turn {S : List Nat} {w w' : World} {b q room first : Nat} {sv : Value} {cs L : List Pr} (h : RqIs w b q room first sv cs L) (t : Turn S w w') (hb : b ∉ S) (hq : q ∉ S) : RqIs w' b q room first sv cs L :=
  ⟨h.box.turn t hb, h.slots.turn t hq, h.fits, h.roomy, h.inside, h.holds⟩
theorem RqIs.next {w w' : World} {b q room first : Nat} {sv : Value} {cs L : List Pr} (h : RqIs w b q room first sv cs L) (t : Below w.heap.size w w') : RqIs w' b q room first sv cs L :=
  h.turn (S := []) (Turn.of_below t) (by simp) (by simp)
theorem RqIs.qlt {w : World} {b q room first : Nat} {sv : Value} {cs L : List Pr} (h : RqIs w b q room first sv cs L) : q < w.heap.size := by
  rcases h.slots with ⟨_, _, e⟩ | ⟨_, _, _, e⟩
  · rw [e]; exact h.box.lt
  · exact e.lt
theorem Rq.turn {S : List Nat} {w w' : World} {b q room : Nat} {L : List Pr} (h : Rq w b q room L) (t : Turn S w w') (hb : b ∉ S) (hq : q ∉ S) : Rq w' b q room L := by
  obtain ⟨f, s, c, h⟩ := h
  exact ⟨f, s, c, h.turn t hb hq⟩
theorem Rq.next {w w' : World} {b q room : Nat} {L : List Pr} (h : Rq w b q room L) (t : Below w.heap.size w w') : Rq w' b q room L := h.turn (S := []) (Turn.of_below t) (by simp) (by simp)
theorem Rq.lt {w : World} {b q room : Nat} {L : List Pr} (h : Rq w b q room L) : b < w.heap.size := by obtain ⟨f, s, c, h⟩ := h; exact h.box.lt
theorem Rq.qlt {w : World} {b q room : Nat} {L : List Pr} (h : Rq w b q room L) : q < w.heap.size := by obtain ⟨f, s, c, h⟩ := h; exact h.qlt
theorem Rq.len {w : World} {b q room : Nat} {L : List Pr} (h : Rq w b q room L) : L.length ≤ room := by obtain ⟨f, s, c, h⟩ := h; exact Nat.le_trans h.fits h.roomy
/-- What is put behind the newest. -/
theorem RqIs.put {w w' : World} {b q room first : Nat} {cs L : List Pr} (h : RqIs w b q room first (.slice (some ⟨q, 0, none⟩) cs.length cs.length) cs L) (hl : L.length < cs.length) (v : Pr)
    (hw : w' = ((w.setCell ⟨q, (first + L.length) % cs.length * 2, none⟩ (.int .i64 v.1)).setCell ⟨q, (first + L.length) % cs.length * 2 + 1, none⟩ (.int .i64 v.2)).setCell ⟨b, 2, none⟩ (.int .i64 ((L.length + 1 : Nat) : Int))) :
    RqIs w' b q room first (.slice (some ⟨q, 0, none⟩) cs.length cs.length) (cs.set ((first + L.length) % cs.length) v) (L ++ [v]) := by
  subst hw
  obtain ⟨hbox, hslots, hfit, hroom, hin, hold⟩ := h
  have hn : 0 < cs.length := by omega
  rcases hslots with ⟨e, _, _⟩ | ⟨_, hqb, _, hq⟩
  · cases e
  refine ⟨?_, .inr ⟨by simp, hqb, by simpa using hn, ?_⟩, by simp; omega, by simpa using hroom, .inl (by rcases hin with h | ⟨h, _⟩; (· simpa using h); (· rw [h] at hn; simp at hn)), ?_⟩
  · have := ((hbox.other (v := .int .i64 v.1) (j := (first + L.length) % cs.length * 2) (Ne.symm hqb)).other (v := .int .i64 v.2) (j := (first + L.length) % cs.length * 2 + 1) (Ne.symm hqb)).set 2 (by simp) (.int .i64 ((L.length + 1 : Nat) : Int))
    simpa using this
  · exact (boxq_put hq (slot_lt _ hn) v).other (j := 2) (v := .int .i64 ((L.length + 1 : Nat) : Int)) hqb
  · intro j x hj
    have hf : first < cs.length := by rcases hin with h | ⟨h, _⟩; (· exact h); (· rw [h] at hn; simp at hn)
    simp only [List.length_set]
    by_cases hjl : j < L.length
    · rw [List.getElem?_append_left hjl] at hj
      have h1 := hold j x hj
      have hne : (first + L.length) % cs.length ≠ (first + j) % cs.length := by
        intro e
        have a1 : (first + L.length) % cs.length = if first + L.length < cs.length then first + L.length else first + L.length - cs.length := by
          split
          · exact Nat.mod_eq_of_lt (by omega)
          · rw [Nat.mod_eq_sub_mod (by omega)]; exact Nat.mod_eq_of_lt (by omega)
        have a2 : (first + j) % cs.length = if first + j < cs.length then first + j else first + j - cs.length := by
          split
          · exact Nat.mod_eq_of_lt (by omega)
          · rw [Nat.mod_eq_sub_mod (by omega)]; exact Nat.mod_eq_of_lt (by omega)
        rw [a1, a2] at e
        split at e <;> split at e <;> omega
      rw [List.getElem?_set_ne hne]
      exact h1
    · have : j < (L ++ [v]).length := (List.getElem?_eq_some_iff.1 hj).1
      simp at this
      obtain rfl : j = L.length := by omega
      simp at hj
      subst hj
      rw [List.getElem?_set_self (slot_lt _ hn)]
/-- What is left when the oldest has gone. -/
theorem RqIs.drop {w w' : World} {b q room first : Nat} {cs L : List Pr} {x : Pr} (h : RqIs w b q room first (.slice (some ⟨q, 0, none⟩) cs.length cs.length) cs (x :: L)) (z : Pr)
    (hw : w' = (((w.setCell ⟨q, first * 2, none⟩ (.int .i64 z.1)).setCell ⟨q, first * 2 + 1, none⟩ (.int .i64 z.2)).setCell ⟨b, 1, none⟩ (.int .i64 (((first + 1) % cs.length : Nat) : Int))).setCell ⟨b, 2, none⟩ (.int .i64 (L.length : Nat))) :
    RqIs w' b q room ((first + 1) % cs.length) (.slice (some ⟨q, 0, none⟩) cs.length cs.length) (cs.set first z) L := by
  subst hw
  obtain ⟨hbox, hslots, hfit, hroom, hin, hold⟩ := h
  simp at hfit
  have hn : 0 < cs.length := by omega
  have hf : first < cs.length := by rcases hin with h | ⟨h, _⟩; (· exact h); (· rw [h] at hn; simp at hn)
  rcases hslots with ⟨e, _, _⟩ | ⟨_, hqb, _, hq⟩
  · cases e
  refine ⟨?_, .inr ⟨by simp, hqb, by simpa using hn, ?_⟩, by simp; omega, by simpa using hroom, .inl (by simpa using slot_lt _ hn), ?_⟩
  · have := (((hbox.other (v := .int .i64 z.1) (j := first * 2) (Ne.symm hqb)).other (v := .int .i64 z.2) (j := first * 2 + 1) (Ne.symm hqb)).set 1 (by simp) (.int .i64 (((first + 1) % cs.length : Nat) : Int))).set 2 (by simp) (.int .i64 (L.length : Nat))
    simpa using this
  · exact ((boxq_put hq hf z).other (j := 1) (v := .int .i64 (((first + 1) % cs.length : Nat) : Int)) hqb).other (j := 2) (v := .int .i64 (L.length : Nat)) hqb
  · intro j y hj
    have h1 := hold (j + 1) y (by simpa using hj)
    have hjl : j < L.length := (List.getElem?_eq_some_iff.1 hj).1
    have e : ((first + 1) % cs.length + j) % cs.length = (first + (j + 1)) % cs.length := by
      rw [Nat.mod_add_mod]; congr 1; omega
    simp only [List.length_set]
    rw [e]
    have hne : first ≠ (first + (j + 1)) % cs.length := by
      intro e'
      have a2 : (first + (j + 1)) % cs.length = if first + (j + 1) < cs.length then first + (j + 1) else first + (j + 1) - cs.length := by
        split
        · exact Nat.mod_eq_of_lt (by omega)
        · rw [Nat.mod_eq_sub_mod (by omega)]; exact Nat.mod_eq_of_lt (by omega)
      rw [a2] at e'
      split at e' <;> omega
    rw [List.getElem?_set_ne hne]
    exact h1
/-- With new slots, the oldest in the first. -/
theorem RqIs.grown {w w1 w' : World} {b q g room first : Nat} {sv : Value} {cs L ds : List Pr} (h : RqIs w b q room first sv cs L) (t : Turn [g] w w1) (hg : w.heap.size ≤ g) (hbox : Box w1 g (prs (L ++ ds))) (hd : 0 < (L ++ ds).length) (hr : (L ++ ds).length ≤ room)
    (hw : w' = (w1.setCell ⟨b, 3, none⟩ (.slice (some ⟨g, 0, none⟩) (L ++ ds).length (L ++ ds).length)).setCell ⟨b, 1, none⟩ (.int .i64 0)) :
    RqIs w' b g room 0 (.slice (some ⟨g, 0, none⟩) (L ++ ds).length (L ++ ds).length) (L ++ ds) L := by
  subst hw
  have hgb : g ≠ b := by have := h.box.lt; omega
  refine ⟨?_, .inr ⟨rfl, hgb, hd, (hbox.other hgb).other hgb⟩, by simp, hr, .inl hd, ?_⟩
  · have := ((h.box.turn t (by simpa using Ne.symm hgb)).set 3 (by simp) (.slice (some ⟨g, 0, none⟩) (L ++ ds).length (L ++ ds).length)).set 1 (by simp) (.int .i64 0)
    simpa using this
  · intro j x hj
    have hjl : j < L.length := (List.getElem?_eq_some_iff.1 hj).1
    rw [Nat.zero_add, Nat.mod_eq_of_lt (by simp; omega), List.getElem?_append_left hjl]
    exact hj
end Go.Proofs.Ytccgbkafcbfcgaa

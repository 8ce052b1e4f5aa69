/- A window as the heap holds it: its ring, and what is told of it. -/
import Derived.Test.YtccgbkafcbfcgaaMgA
import Derived.Test.YtccgbkafcbfcgaaMoT
import Derived.Test.YtccgbkafcbfcgaaRkX
import Derived.Test.YtccgbkafcbfcgaaWdA
namespace Go.Proofs.Ytccgbkafcbfcgaa
open Go.RowKit

/-- The values of samples. -/
def vals (L : List Pr) : List Int := L.map Prod.snd
/-- A number of 64 bits. -/
def In64 (x : Int) : Prop := -9223372036854775808 ≤ x ∧ x < 9223372036854775808
theorem sum_bounds {V : List Int} (h : ∀ x, x ∈ V → In64 x) : -((V.length : Int) * 9223372036854775808) ≤ V.sum ∧ V.sum ≤ (V.length : Int) * 9223372036854775807 := by
  induction V with
  | nil => simp
  | cons x V ih =>
    obtain ⟨h1, h2⟩ := h x (by simp)
    obtain ⟨h3, h4⟩ := ih (fun y hy => h y (by simp [hy]))
    simp only [List.sum_cons, List.length_cons]
    omega
/-- What is kept up to date, as the aggregate asks: by the pointer that isn't nil; A are its blocks. -/
def Aux (w : World) (V : List Int) (agg : Int) (sp mp op : Option Addr) (A : List Nat) : Prop :=
  (∃ (a : Nat) (lo hi : Int), (agg = 1 ∨ agg = 2) ∧ Box w a [.int .u64 lo, .int .u64 hi] ∧ Rep lo hi V.sum ∧ sp = some ⟨a, 0, none⟩ ∧ mp = none ∧ op = none ∧ A = [a]) ∨
  (∃ (a c : Nat) (h : Bool), ((agg = 3 ∧ h = false) ∨ (agg = 4 ∧ h = true)) ∧ Mo w a c h V ∧ sp = none ∧ mp = some ⟨a, 0, none⟩ ∧ op = none ∧ A = [a, c]) ∨
  (agg = 5 ∧ sp = none ∧ mp = none ∧ op = none ∧ A = []) ∨
  (∃ (a c : Nat), agg = 6 ∧ Rk w a c (srt V) ∧ sp = none ∧ mp = none ∧ op = some ⟨a, 0, none⟩ ∧ A = [a, c])
theorem Aux.sum {w : World} {V : List Int} {agg : Int} (a : Nat) (lo hi : Int) (ha : agg = 1 ∨ agg = 2) (hb : Box w a [.int .u64 lo, .int .u64 hi]) (hr : Rep lo hi V.sum) : Aux w V agg (some ⟨a, 0, none⟩) none none [a] := .inl ⟨a, lo, hi, ha, hb, hr, rfl, rfl, rfl, rfl⟩
theorem Aux.best {w : World} {V : List Int} {agg : Int} (a c : Nat) (h : Bool) (ha : (agg = 3 ∧ h = false) ∨ (agg = 4 ∧ h = true)) (hm : Mo w a c h V) : Aux w V agg none (some ⟨a, 0, none⟩) none [a, c] := .inr (.inl ⟨a, c, h, ha, hm, rfl, rfl, rfl, rfl⟩)
theorem Aux.count {w : World} {V : List Int} {agg : Int} (ha : agg = 5) : Aux w V agg none none none [] := .inr (.inr (.inl ⟨ha, rfl, rfl, rfl, rfl⟩))
theorem Aux.rank {w : World} {V : List Int} {agg : Int} (a c : Nat) (ha : agg = 6) (hk : Rk w a c (srt V)) : Aux w V agg none none (some ⟨a, 0, none⟩) [a, c] := .inr (.inr (.inr ⟨a, c, ha, hk, rfl, rfl, rfl, rfl⟩))
theorem Aux.turn {S : List Nat} {w w' : World} {V : List Int} {agg : Int} {sp mp op : Option Addr} {A : List Nat} (h : Aux w V agg sp mp op A) (t : Turn S w w') (hA : ∀ i, i ∈ A → i ∉ S) : Aux w' V agg sp mp op A := by
  rcases h with ⟨a, lo, hi, ha, hb, hr, rfl, rfl, rfl, rfl⟩ | ⟨a, c, h, ha, hm, rfl, rfl, rfl, rfl⟩ | ⟨ha, rfl, rfl, rfl, rfl⟩ | ⟨a, c, ha, hk, rfl, rfl, rfl, rfl⟩
  · exact .sum a lo hi ha (hb.turn t (hA a (by simp))) hr
  · exact .best a c h ha (hm.turn t (hA a (by simp)) (hA c (by simp)))
  · exact .count ha
  · exact .rank a c ha (hk.turn t (hA a (by simp)) (hA c (by simp)))
theorem Aux.next {w w' : World} {V : List Int} {agg : Int} {sp mp op : Option Addr} {A : List Nat} (h : Aux w V agg sp mp op A) (t : Below w.heap.size w w') : Aux w' V agg sp mp op A := h.turn (S := []) (Turn.of_below t) (by simp)
theorem Aux.lt {w : World} {V : List Int} {agg : Int} {sp mp op : Option Addr} {A : List Nat} (h : Aux w V agg sp mp op A) : ∀ i, i ∈ A → i < w.heap.size := by
  intro i hi
  rcases h with ⟨a, lo, hi', ha, hb, hr, rfl, rfl, rfl, rfl⟩ | ⟨a, c, h, ha, hm, rfl, rfl, rfl, rfl⟩ | ⟨ha, rfl, rfl, rfl, rfl⟩ | ⟨a, c, ha, hk, rfl, rfl, rfl, rfl⟩
  · simp at hi; subst hi; exact hb.lt
  · simp at hi; rcases hi with rfl | rfl; (· exact hm.lt); (· exact hm.glt)
  · simp at hi
  · simp at hi; rcases hi with rfl | rfl; (· exact hk.lt); (· exact hk.glt)
theorem Aux.agg {w : World} {V : List Int} {agg : Int} {sp mp op : Option Addr} {A : List Nat} (h : Aux w V agg sp mp op A) : 1 ≤ agg ∧ agg ≤ 6 := by
  rcases h with ⟨a, lo, hi, ha, hb, hr, rfl, rfl, rfl, rfl⟩ | ⟨a, c, h, ha, hm, rfl, rfl, rfl, rfl⟩ | ⟨ha, rfl, rfl, rfl, rfl⟩ | ⟨a, c, ha, hk, rfl, rfl, rfl, rfl⟩
  · omega
  · omega
  · omega
  · omega
/-- The terms of a window that is made. -/
def Fair (agg span per : Int) : Prop := 1 ≤ span ∧ span ≤ 604800 ∧ (agg = 6 → 1 ≤ per ∧ per ≤ 100000000) ∧ In64 per
/-- The block b is a window: its ring at r, the slots at q, what is kept up to date in A. -/
structure WinIs (w : World) (b r q : Nat) (A : List Nat) (sp mp op : Option Addr) (agg span per ck : Int) (on : Bool) (L : List Pr) : Prop where
  box : Box w b [.pointer (some ⟨r, 0, none⟩), .int .i64 agg, .int .i64 span, .int .i64 per, .int .i64 ck, .bool on, .pointer sp, .pointer mp, .pointer op]
  ring : Rq w r q 4096 L
  aux : Aux w (vals L) agg sp mp op A
  br : b ≠ r
  bq : b ≠ q
  bA : b ∉ A
  rA : r ∉ A
  qA : q ∉ A
  inn : ∀ s, s ∈ L → In64 s.1 ∧ In64 s.2
  fair : Fair agg span per
  now : In64 ck
/-- The same, with all of its blocks in F. -/
def Win (w : World) (b : Nat) (F : List Nat) (agg span per ck : Int) (on : Bool) (L : List Pr) : Prop := ∃ r q A sp mp op, F = b :: r :: q :: A ∧ WinIs w b r q A sp mp op agg span per ck on L
theorem WinIs.turn {S : List Nat} {w w' : World} {b r q : Nat} {A : List Nat} {sp mp op : Option Addr} {agg span per ck : Int} {on : Bool} {L : List Pr} (h : WinIs w b r q A sp mp op agg span per ck on L) (t : Turn S w w') (hF : ∀ i, i ∈ b :: r :: q :: A → i ∉ S) : WinIs w' b r q A sp mp op agg span per ck on L :=
  ⟨h.box.turn t (hF b (by simp)), h.ring.turn t (hF r (by simp)) (hF q (by simp)), h.aux.turn t (fun i hi => hF i (by simp [hi])), h.br, h.bq, h.bA, h.rA, h.qA, h.inn, h.fair, h.now⟩
theorem Win.turn {S : List Nat} {w w' : World} {b : Nat} {F : List Nat} {agg span per ck : Int} {on : Bool} {L : List Pr} (h : Win w b F agg span per ck on L) (t : Turn S w w') (hF : ∀ i, i ∈ F → i ∉ S) : Win w' b F agg span per ck on L := by
  obtain ⟨r, q, A, sp, mp, op, rfl, h⟩ := h
  exact ⟨r, q, A, sp, mp, op, rfl, h.turn t hF⟩
theorem Win.next {w w' : World} {b : Nat} {F : List Nat} {agg span per ck : Int} {on : Bool} {L : List Pr} (h : Win w b F agg span per ck on L) (t : Below w.heap.size w w') : Win w' b F agg span per ck on L := h.turn (S := []) (Turn.of_below t) (by simp)
theorem WinIs.lt {w : World} {b r q : Nat} {A : List Nat} {sp mp op : Option Addr} {agg span per ck : Int} {on : Bool} {L : List Pr} (h : WinIs w b r q A sp mp op agg span per ck on L) : ∀ i, i ∈ b :: r :: q :: A → i < w.heap.size := by
  intro i hi
  simp at hi
  rcases hi with rfl | rfl | rfl | hi
  · exact h.box.lt
  · exact h.ring.lt
  · exact h.ring.qlt
  · exact h.aux.lt i hi
theorem Win.lt {w : World} {b : Nat} {F : List Nat} {agg span per ck : Int} {on : Bool} {L : List Pr} (h : Win w b F agg span per ck on L) : ∀ i, i ∈ F → i < w.heap.size := by
  obtain ⟨r, q, A, sp, mp, op, rfl, h⟩ := h
  exact h.lt
theorem Win.len {w : World} {b : Nat} {F : List Nat} {agg span per ck : Int} {on : Bool} {L : List Pr} (h : Win w b F agg span per ck on L) : L.length ≤ 4096 := by
  obtain ⟨r, q, A, sp, mp, op, rfl, h⟩ := h
  exact h.ring.len
theorem Box.nine {w : World} {g : Nat} {v0 v1 v2 v3 v4 v5 v6 v7 v8 : Value} (h : Box w g [v0, v1, v2, v3, v4, v5, v6, v7, v8]) : w.cell? ⟨g, 0, none⟩ = some v0 ∧ w.cell? ⟨g, 1, none⟩ = some v1 ∧ w.cell? ⟨g, 2, none⟩ = some v2 ∧ w.cell? ⟨g, 3, none⟩ = some v3 ∧ w.cell? ⟨g, 4, none⟩ = some v4 ∧ w.cell? ⟨g, 5, none⟩ = some v5 ∧ w.cell? ⟨g, 6, none⟩ = some v6 ∧ w.cell? ⟨g, 7, none⟩ = some v7 ∧ w.cell? ⟨g, 8, none⟩ = some v8 :=
  ⟨h.cell 0 _ rfl, h.cell 1 _ rfl, h.cell 2 _ rfl, h.cell 3 _ rfl, h.cell 4 _ rfl, h.cell 5 _ rfl, h.cell 6 _ rfl, h.cell 7 _ rfl, h.cell 8 _ rfl⟩
/-- Blocks that were there, or are new. -/
def From (w : World) (F F' : List Nat) : Prop := ∀ i, i ∈ F' → i ∈ F ∨ w.heap.size ≤ i
theorem From.refl (w : World) (F : List Nat) : From w F F := fun _ h => .inl h
theorem From.trans {w w1 : World} {F F' F'' : List Nat} (h : From w F F') (k : From w1 F' F'') (hs : w.heap.size ≤ w1.heap.size) : From w F F'' := fun i hi => (k i hi).elim (h i) (fun e => .inr (by omega))
end Go.Proofs.Ytccgbkafcbfcgaa

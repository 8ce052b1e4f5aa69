/- The document's ladder, by the sorts of its parts. A region that draws its order, whose callees only make new blocks: one walk, in the order of the text. -/
import Derived.Test.YtkhdcojgcnomgaaGreatDoorCrA
import Derived.Test.YtkhdcojgcnomgaaGreatDoorCoG
import Derived.Test.YtkhdcojgcnomgaaGreatDoorCoZ
import Derived.BigQuiet
section
namespace Go.Proofs.YtkhdcojgcnomgaaGreatDoor
open Go.RowKit

abbrev roomV (wn cn ln : Int) : Value := .agg #[.int .i64 wn, .int .i64 cn, .int .i64 ln]
/-- The document's Sort of this core. -/
def RSo (wn cn ln : Int) (t : Co) : Prop := ∀ (v : Value) (w : World), CSits w t v → cnodes t ≤ 8192 → Calls Tryz.prog 13 #[roomV wn cn ln, coV t v] w fun e w' => e = .returned (.int .i64 (csort ladF wn cn ln t)) ∧ Below w.heap.size w w'
/-- A ladder, as the document asks for it. -/
def dstep (c : Co) (ss : List Int) (i : Nat) : Prop := (c.parts.getD i co0).op = 1 ∧ ss.getD i 0 = 1 ∧ (1 < i → (c.parts.getD (i - 2) co0).n < (c.parts.getD i co0).n) ∧ ss.getD (i + 1) 0 = 3
def LadD (c : Co) (ss : List Int) : Prop := 2 ≤ ss.length ∧ ss.length % 2 = 0 ∧ ss.getD 0 0 = 1 ∧ (∀ i, i % 2 = 1 → i + 1 < ss.length → dstep c ss i) ∧ ss.getD (ss.length - 1) 0 = 3
theorem getD_mem0 {ss : List Int} {j : Nat} (h : j < ss.length) : ss.getD j 0 ∈ ss := by
  rw [List.getD_eq_getElem?_getD, List.getElem?_eq_getElem h]; exact List.getElem_mem h
theorem csort_num (wn cn ln : Int) (t : Co) (h : t.op = 1) : csort ladF wn cn ln t = 0 ∨ csort ladF wn cn ln t = 1 := by
  rw [csort_eq, h]
  rw [if_pos ⟨by decide, by decide⟩]
  split
  · split
    · exact .inl rfl
    · show mkF 1 [] _ = 0 ∨ mkF 1 [] _ = 1
      unfold mkF
      split
      · exact .inr rfl
      · exact .inl rfl
  · exact .inl rfl
theorem getD_map {wn cn ln : Int} (ps : List Co) {j : Nat} (h : j < ps.length) : (ps.map (csort ladF wn cn ln)).getD j 0 = csort ladF wn cn ln (ps.getD j co0) := by
  rw [List.getD_eq_getElem?_getD, List.getD_eq_getElem?_getD, List.getElem?_map, List.getElem?_eq_getElem h]; rfl
theorem ladD_iff (wn cn ln : Int) (c : Co) : LadD c (c.parts.map (csort ladF wn cn ln)) ↔ (c.parts.map (csort ladF wn cn ln)).contains 0 = false ∧ LadOk c (c.parts.map (csort ladF wn cn ln)) := by
  obtain ⟨ss, hss⟩ : ∃ ss, ss = c.parts.map (csort ladF wn cn ln) := ⟨_, rfl⟩
  have hl : ss.length = c.parts.length := by rw [hss]; simp
  rw [← hss]
  constructor
  · rintro ⟨h1, h2, h3, h4, h5⟩
    refine ⟨?_, h1, h2, h3, h5, fun i ho hi => ⟨(h4 i ho hi).1, (h4 i ho hi).2.2.2, (h4 i ho hi).2.2.1⟩⟩
    have key : ∀ j, j < ss.length → ss.getD j 0 ≠ 0 := by
      intro j hj
      by_cases j0 : j = 0
      · subst j0; omega
      by_cases je : j % 2 = 0
      · have := (h4 (j - 1) (by omega) (by omega)).2.2.2
        rw [show j - 1 + 1 = j by omega] at this
        omega
      · by_cases jl : j = ss.length - 1
        · rw [jl]; omega
        · have := (h4 j (by omega) (by omega)).2.1; omega
    rw [Bool.eq_false_iff]
    intro hc
    obtain ⟨j, hj, e⟩ := List.getElem_of_mem (List.contains_iff_mem.1 hc)
    have := key j hj
    rw [List.getD_eq_getElem?_getD, List.getElem?_eq_getElem hj] at this
    exact this e
  · rintro ⟨h0, h1, h2, h3, h5, h4⟩
    refine ⟨h1, h2, h3, fun i ho hi => ?_, h5⟩
    obtain ⟨a, b, d⟩ := h4 i ho hi
    refine ⟨a, ?_, d, b⟩
    have hm := getD_mem0 (ss := ss) (j := i) (by omega)
    have hne : ss.getD i 0 ≠ 0 := fun e => by
      rw [e] at hm
      rw [Bool.eq_false_iff] at h0
      exact h0 (List.contains_iff_mem.2 hm)
    rw [hss, getD_map c.parts (by omega)] at hne ⊢
    exact (csort_num wn cn ln _ a).resolve_left hne
end Go.Proofs.YtkhdcojgcnomgaaGreatDoor
end
section
namespace Go.Proofs.YtkhdcojgcnomgaaGreatDoor
open Go.RowKit

/-- The worlds in which all that lay in w0 lies on, told by a function. -/
theorem calm (w0 : World) : ∃ f : World → World, (∀ n, Below w0.heap.size w0 (f n)) ∧ (∀ W, Below w0.heap.size w0 W → ∃ n, W = f n) := by
  classical
  refine ⟨fun n => if Below w0.heap.size w0 n then n else w0, fun n => ?_, fun W h => ⟨W, (if_pos h).symm⟩⟩
  show Below w0.heap.size w0 (if Below w0.heap.size w0 n then n else w0)
  by_cases h : Below w0.heap.size w0 n
  · rw [if_pos h]; exact h
  · rw [if_neg h]; exact Below.refl _ _
theorem wp_region_calm {P : Program} {id : Nat} {Q : Exit → Act → World → Prop} {a : Act} {w : World} {l : List Oper} (f : World → World) (hm : P.follows .mixedOrders = true) (hB : Region.lexB .any l.toArray = true) (hC : ∃ n, w.drew = f n)
    (h : wpQuiet P l.toArray (fun w' => ∃ n, w' = f n) (fun a' => ∀ w', (∃ n, w' = f n) → Q .normal a' w') l a) : (Code.region id l.toArray true).wp P Q a w :=
  wp_region_quiet (C := fun w' => ∃ n, w' = f n) hm hB hC (by simpa using h)
end Go.Proofs.YtkhdcojgcnomgaaGreatDoor
end

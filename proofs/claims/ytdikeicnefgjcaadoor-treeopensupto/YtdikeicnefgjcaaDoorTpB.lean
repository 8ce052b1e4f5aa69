/- Terms as a row of cells; partsAs: a node of one, two or three parts. -/
import Derived.Test.YtdikeicnefgjcaaDoorTpA
namespace Go.Proofs.YtdikeicnefgjcaaDoor
open Go.RowKit

def flatT (ts : List (Tm × Value)) : List Value := (ts.map fun p => tmL p.1 p.2).flatten
theorem flat6 : ∀ (L : List (List Value)), (∀ x, x ∈ L → x.length = 6) → ∀ (i q : Nat), q < 6 → (hi : i < L.length) → L.flatten[i * 6 + q]? = (L[i])[q]?
  | [], _, i, q, _, hi => by simp at hi
  | x :: r, h, 0, q, hq, hi => by
    rw [List.flatten_cons, Nat.zero_mul, Nat.zero_add, List.getElem?_append_left (by rw [h x (by simp)]; exact hq)]
    rfl
  | x :: r, h, i + 1, q, hq, hi => by
    rw [List.flatten_cons, List.getElem?_append_right (by rw [h x (by simp)]; omega), h x (by simp), show (i + 1) * 6 + q - 6 = i * 6 + q by omega]
    exact flat6 r (fun y hy => h y (by simp [hy])) i q hq (by simpa using hi)
theorem flatT_len (ts : List (Tm × Value)) : (flatT ts).length = ts.length * 6 := by
  unfold flatT
  induction ts with
  | nil => rfl
  | cons p r ih => simp only [List.map_cons, List.flatten_cons, List.length_append, ih, List.length_cons, List.length_nil]; omega
theorem flatT_get (ts : List (Tm × Value)) (i q : Nat) (hq : q < 6) (hi : i < ts.length) : (flatT ts)[i * 6 + q]? = (tmL ts[i].1 ts[i].2)[q]? := by
  unfold flatT
  rw [flat6 _ (fun x hx => by obtain ⟨p, _, rfl⟩ := List.mem_map.1 hx; rfl) i q hq (by simpa using hi)]
  simp
theorem flatT_append (a b : List (Tm × Value)) : flatT (a ++ b) = flatT a ++ flatT b := by simp [flatT]
theorem flatT_one (ts : List (Tm × Value)) : ∀ u ∈ flatT ts, (∀ p, p ∈ ts → p.2.oneCell' = true) → u.oneCell' = true := by
  intro u hu h
  unfold flatT at hu
  obtain ⟨l, hl, hm⟩ := List.mem_flatten.1 hu
  obtain ⟨p, hp, rfl⟩ := List.mem_map.1 hl
  simp only [List.mem_cons, List.not_mem_nil, or_false] at hm
  rcases hm with rfl | rfl | rfl | rfl | rfl | rfl
  · rfl
  · rfl
  · rfl
  · rfl
  · rfl
  · exact h p hp
theorem pat_flat {z : Nat} {w : World} {g off c : Nat} (ts : List (Tm × Value)) (hb : ∀ j u, (flatT ts)[j]? = some u → w.cell? ⟨g, off + j, none⟩ = some u) (hg : g < w.heap.size) (hs : ∀ p, p ∈ ts → Sits z w p.1 p.2) (hc : ts.length ≤ c) (hm : c ≤ 9223372036854775807) : PAt z w (.slice (some ⟨g, off, none⟩) ts.length c) (ts.map Prod.fst) := by
  refine ⟨_, c, by rw [List.length_map], by simpa using hc, hm, .inr ⟨g, off, rfl, hg, fun i hi => ?_⟩⟩
  have hi' : i < ts.length := by simpa using hi
  have h := fun q hq => hb (i * 6 + q) _ ((flatT_get ts i q hq hi').trans (List.getElem?_eq_getElem (by simpa using hq)))
  simp only [List.getElem_map]
  refine ⟨ts[i].2, ⟨?_, ?_, ?_, ?_, ?_, ?_⟩, hs _ (List.getElem_mem hi')⟩
  · simpa using h 0 (by omega)
  · simpa [Nat.add_assoc] using h 1 (by omega)
  · simpa [Nat.add_assoc] using h 2 (by omega)
  · simpa [Nat.add_assoc] using h 3 (by omega)
  · simpa [Nat.add_assoc] using h 4 (by omega)
  · simpa [Nat.add_assoc] using h 5 (by omega)
theorem PAt.list {z : Nat} {w : World} {v : Value} {l : List Tm} (h : PAt z w v l) (hpos : 0 < l.length) : ∃ (b off cap : Nat) (ts : List (Tm × Value)), v = .slice (some ⟨b, off, none⟩) l.length cap ∧ b < w.heap.size ∧ ts.map Prod.fst = l ∧ (∀ p, p ∈ ts → Sits z w p.1 p.2) ∧ ∀ j u, (flatT ts)[j]? = some u → w.cell? ⟨b, off + j, none⟩ = some u := by
  obtain ⟨b, off, cap, hv, _, _, hb, hx⟩ := h.open hpos
  refine ⟨b, off, cap, List.ofFn (fun i : Fin l.length => (l[i], (hx i i.2).choose)), hv, hb, ?_, ?_, ?_⟩
  · rw [List.map_ofFn]
    apply List.ext_getElem
    · simp
    · intro i h1 h2
      simp
  · intro p hp
    obtain ⟨i, rfl⟩ := (List.mem_ofFn ..).1 hp
    exact (hx i i.2).choose_spec.2
  · intro j u hu
    have hj : j < (flatT (List.ofFn (fun i : Fin l.length => (l[i], (hx i i.2).choose)))).length := (List.getElem?_eq_some_iff.1 hu).1
    rw [flatT_len] at hj
    simp only [List.length_ofFn] at hj
    have hq : j % 6 < 6 := Nat.mod_lt _ (by decide)
    have hi : j / 6 < l.length := by omega
    have e : j = j / 6 * 6 + j % 6 := by omega
    rw [e, flatT_get _ _ _ hq (by simpa using hi)] at hu
    simp only [List.getElem_ofFn] at hu
    have h6 := (hx (j / 6) hi).choose_spec.1
    rw [e, ← Nat.add_assoc]
    generalize j / 6 = i at *
    generalize j % 6 = q at *
    match q, hq with
    | 0, _ => rw [Nat.add_zero]; exact h6.c0.trans hu
    | 1, _ => exact h6.c1.trans hu
    | 2, _ => exact h6.c2.trans hu
    | 3, _ => exact h6.c3.trans hu
    | 4, _ => exact h6.c4.trans hu
    | 5, _ => exact h6.c5.trans hu
end Go.Proofs.YtdikeicnefgjcaaDoor

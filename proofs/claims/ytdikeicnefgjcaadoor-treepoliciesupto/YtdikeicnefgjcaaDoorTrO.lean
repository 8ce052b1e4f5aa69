/- Terms among the arguments, laid open. -/
import Derived.Test.YtdikeicnefgjcaaDoorTrM
import Derived.OpenShut
import Derived.ChangeSlices
import Derived.ChangeMaps5
import Derived.Deep.Slices
namespace Go.Proofs.YtdikeicnefgjcaaDoor
open Go.ChangeShapes Go.WideShapes Go.RowKit Go.Deep Go.ChangeMaps

theorem in64 {n : Int} (h : (Lit.int .i64 n).wf = true) : In64 n := by have := bounds_i64 h; exact ⟨by omega, by omega⟩
section
variable {H : Type} {enc : TypeId × Value → H} {W : World} {base : Nat} {sp : Nat → Bool} {held : Bool}
theorem ce_int : Tryd.prog.cellsOf 3 = 1 := by kernel_rfl
theorem ce_int64 : Tryd.prog.cellsOf 2 = 1 := by kernel_rfl
theorem ce_string : Tryd.prog.cellsOf 9 = 1 := by kernel_rfl
theorem ce_terms : Tryd.prog.cellsOf 22 = 1 := by kernel_rfl
theorem ce_term : Tryd.prog.cellsOf 24 = 6 := by kernel_rfl
theorem list_six {α : Type} : ∀ (c : List α), c.length = 6 → ∃ v0 v1 v2 v3 v4 v5, c = [v0, v1, v2, v3, v4, v5]
  | [v0, v1, v2, v3, v4, v5], _ => ⟨v0, v1, v2, v3, v4, v5, rfl⟩
theorem cells_at {w : World} {base b off k n : Nat} {cs : List Value} (h : w.cells? base ((⟨b, off, none⟩ : Addr).add k) n = some cs) : ∀ j, j < n → w.cell? ⟨b, off + k + j, none⟩ = cs[j]? := by
  intro j hj
  have := (World.cells?_some h).2.2 j hj
  rwa [add_add, add_plain, ← Nat.add_assoc] at this
theorem cells_first {w : World} {base b off n : Nat} {spot : Option Nat} {cs : List Value} (h : w.cells? base ((⟨b, off, spot⟩ : Addr).add 0) n = some cs) (hn : 0 < n) : spot = none ∧ b < w.heap.size := by
  obtain ⟨_, hl, hc⟩ := World.cells?_some h
  have h0 := hc 0 hn
  have h1 : w.cell? ⟨b, off, spot⟩ = some cs[0] := by rw [← List.getElem?_eq_getElem (by omega)]; simpa [Addr.add] using h0
  exact ⟨by simpa using World.cell?_spot h1, World.block_lt_of_cell? w _ h1⟩
/-- What is asked of data: it goes down to the parts, and bounds the texts. -/
structure Down (z : Nat) (Q : TypeId → DataW H → Prop) : Prop where
  str : ∀ l, Q 9 (.lit (.string l)) → l.length ≤ z
  agg : ∀ d0 d1 d2 d3 d4 d5, Q 24 (.agg [d0, d1, d2, d3, d4, d5]) → Q 9 d1 ∧ Q 22 d5
  sli : ∀ e s, Q 22 (.slice e s) → ∀ x, x ∈ e → Q 24 x
set_option maxRecDepth 10000 in
theorem open_term {z : Nat} {Q : TypeId → DataW H → Prop} (hQ : Down z Q) : ∀ (fuel : Nat) (cs : List Value) (x : DataW H × List MemPlace), DataW.trod enc Tryd.prog W base sp held fuel 24 cs = some x → Q 24 x.1 → ∃ (t : Tm) (u : Value), cs = tmL t u ∧ Sits z W t u := by
  intro fuel
  induction fuel using Nat.strongRecOn with
  | ind fuel ih =>
    intro cs x hf hq
    obtain ⟨xs, m, rfl, hx1, hl, hlen, hf⟩ := DataW.trod_struct Tryd.underlying24 hf
    rw [ce_term] at hl
    obtain ⟨v0, v1, v2, v3, v4, v5, rfl⟩ := list_six cs hl
    obtain ⟨z0, z1, z2, z3, z4, z5, rfl⟩ := list_six xs hlen
    have f0 : DataW.trod enc Tryd.prog W base sp held m 3 (([v0, v1, v2, v3, v4, v5].drop 0).take (Tryd.prog.cellsOf 3)) = [z0, z1, z2, z3, z4, z5][0]? := hf 0 _ rfl
    have f1 : DataW.trod enc Tryd.prog W base sp held m 9 (([v0, v1, v2, v3, v4, v5].drop 1).take (Tryd.prog.cellsOf 9)) = [z0, z1, z2, z3, z4, z5][1]? := hf 1 _ rfl
    have f2 : DataW.trod enc Tryd.prog W base sp held m 2 (([v0, v1, v2, v3, v4, v5].drop 2).take (Tryd.prog.cellsOf 2)) = [z0, z1, z2, z3, z4, z5][2]? := hf 2 _ rfl
    have f3 : DataW.trod enc Tryd.prog W base sp held m 2 (([v0, v1, v2, v3, v4, v5].drop 3).take (Tryd.prog.cellsOf 2)) = [z0, z1, z2, z3, z4, z5][3]? := hf 3 _ rfl
    have f4 : DataW.trod enc Tryd.prog W base sp held m 3 (([v0, v1, v2, v3, v4, v5].drop 4).take (Tryd.prog.cellsOf 3)) = [z0, z1, z2, z3, z4, z5][4]? := hf 4 _ rfl
    have f5 : DataW.trod enc Tryd.prog W base sp held m 22 (([v0, v1, v2, v3, v4, v5].drop 5).take (Tryd.prog.cellsOf 22)) = [z0, z1, z2, z3, z4, z5][5]? := hf 5 _ rfl
    simp only [ce_int, ce_int64, ce_string, ce_terms, List.drop_zero, List.take_succ_cons, List.take_zero, List.drop_succ_cons, List.getElem?_cons_zero, List.getElem?_cons_succ] at f0 f1 f2 f3 f4 f5
    obtain ⟨a0, e0, -, w0⟩ := DataW.trod_int Tryd.underlying3 f0
    obtain ⟨a1, e1, x1, -⟩ := DataW.trod_string Tryd.underlying9 f1
    obtain ⟨a2, e2, -, w2⟩ := DataW.trod_int Tryd.underlying2 f2
    obtain ⟨a3, e3, -, w3⟩ := DataW.trod_int Tryd.underlying2 f3
    obtain ⟨a4, e4, -, w4⟩ := DataW.trod_int Tryd.underlying3 f4
    simp only [List.cons.injEq, and_true] at e0 e1 e2 e3 e4
    rw [hx1] at hq
    obtain ⟨q1, q5⟩ := hQ.agg _ _ _ _ _ _ hq
    rw [x1] at q1
    have hs1 : a1.size ≤ z := by
      have := hQ.str _ q1
      simp only [Array.length_toList] at this
      exact this
    have fin : ∀ (ps : List Tm), PAt z W v5 ps → ∃ (t : Tm) (u : Value), [v0, v1, v2, v3, v4, v5] = tmL t u ∧ Sits z W t u := fun ps hp =>
      ⟨⟨a0, a1, a2, a3, a4, ps⟩, v5, by rw [e0, e1, e2, e3, e4], sits_iff.2 ⟨⟨in64 w0, in64 w2, in64 w3, in64 w4, hs1⟩, hp⟩⟩
    rcases DataW.trod_slice Tryd.underlying22 f5 with ⟨h5, _⟩ | ⟨a, len, cap, elems, rest, n, hmn, h5, hx5, hb5, hl5, hm5, hlen5, hel5, _, _⟩
    · simp only [List.cons.injEq, and_true] at h5
      exact fin [] ⟨none, 0, by rw [h5]; rfl, Nat.le_refl _, by decide, .inl rfl⟩
    · simp only [List.cons.injEq, and_true] at h5
      rw [hx5] at q5
      have qe := hQ.sli _ _ q5
      by_cases h0 : len = 0
      · exact fin [] ⟨some a, cap, by rw [h5, h0]; rfl, by simp, hm5, .inl rfl⟩
      have each : ∀ i, ∃ tu : Tm × Value, i < len → ∃ cs', W.cells? base (a.add (i * 6)) 6 = some cs' ∧ cs' = tmL tu.1 tu.2 ∧ Sits z W tu.1 tu.2 := by
        intro i
        by_cases hi : i < len
        · have key := hel5 i hi
          rw [ce_term, List.getElem?_eq_getElem (by omega)] at key
          obtain ⟨cs', g1, g2⟩ := Option.bind_eq_some_iff.1 key
          obtain ⟨t, u, g3, g4⟩ := ih n (by omega) cs' _ g2 (qe _ (List.mem_map.2 ⟨_, List.getElem_mem (by omega), rfl⟩))
          exact ⟨(t, u), fun _ => ⟨cs', g1, g3, g4⟩⟩
        · exact ⟨(⟨0, ⟨#[]⟩, 0, 0, 0, []⟩, .nilIface), fun h => absurd h hi⟩
      obtain ⟨b, off, spot⟩ := a
      obtain ⟨rfl, hbl⟩ : spot = none ∧ b < W.heap.size := by
        obtain ⟨cs', g1, _⟩ := (each 0).choose_spec (by omega)
        exact cells_first (by simpa using g1) (by decide)
      refine fin ((List.range len).map fun i => (each i).choose.1) ⟨_, cap, by rw [h5]; simp, by simp; omega, hm5, .inr ⟨b, off, rfl, hbl, fun i hi => ?_⟩⟩
      have hi' : i < len := by simpa using hi
      obtain ⟨cs', g1, g3, g4⟩ := (each i).choose_spec hi'
      refine ⟨(each i).choose.2, ?_, by simpa using g4⟩
      have hc := cells_at g1
      rw [g3] at hc
      simp only [List.getElem_map, List.getElem_range]
      exact ⟨by simpa using hc 0 (by decide), by simpa using hc 1 (by decide), by simpa using hc 2 (by decide), by simpa using hc 3 (by decide), by simpa using hc 4 (by decide), by simpa using hc 5 (by decide)⟩
set_option maxRecDepth 10000 in
/-- A term among the arguments. -/
theorem open_arg {z : Nat} {Q : TypeId → DataW H → Prop} (hQ : Down z Q) {r : Reach} {b0 : Nat} {v : Value} {d : DataW H} {ps : List MemPlace} (hval : Value.okWide Tryd.prog W r b0 24 v) (hd : DataW.Trod enc Tryd.prog W base sp held 24 v d ps) (hq : Q 24 d) : ∃ (t : Tm) (u : Value), v = tmV t u ∧ Sits z W t u := by
  simp only [Value.okWide, Tryd.underlying24] at hval
  obtain ⟨cs, rfl, _⟩ := hval
  obtain ⟨fuel, hf⟩ := hd
  obtain ⟨c⟩ := cs
  simp only [Value.cells] at hf
  obtain ⟨t, u, e, hs⟩ := open_term hQ fuel _ _ hf hq
  exact ⟨t, u, by rw [e], hs⟩
end
end Go.Proofs.YtdikeicnefgjcaaDoor

import Derived.Test.YtigldebdljfnbaaDoorMhB
import Derived.OpenShut
import Derived.ChangeSlices
import Derived.ChangeMaps5
import Derived.Deep.Slices
import Derived.Test.YtigldebdljfnbaaDoorMgP
import Derived.SizedLaws
section
namespace Go.Proofs.YtigldebdljfnbaaDoor
open Go.ChangeShapes Go.WideShapes Go.RowKit Go.Deep Go.ChangeMaps

theorem in64 {n : Int} (h : (Lit.int .i64 n).wf = true) : C64 n := by have := bounds_i64 h; exact ⟨by omega, by omega⟩
section
variable {H : Type} {enc : TypeId × Value → H} {W : World} {base : Nat} {sp : Nat → Bool} {held : Bool}
theorem ce_int : Tryd.prog.cellsOf 3 = 1 := by kernel_rfl
theorem ce_int64 : Tryd.prog.cellsOf 2 = 1 := by kernel_rfl
theorem ce_cores : Tryd.prog.cellsOf 28 = 1 := by kernel_rfl
theorem ce_core : Tryd.prog.cellsOf 30 = 4 := by kernel_rfl
theorem list_four {α : Type} : ∀ (c : List α), c.length = 4 → ∃ v0 v1 v2 v3, c = [v0, v1, v2, v3]
  | [v0, v1, v2, v3], _ => ⟨v0, v1, v2, v3, rfl⟩
theorem list_two {α : Type} : ∀ (c : List α), c.length = 2 → ∃ v0 v1, c = [v0, v1]
  | [v0, v1], _ => ⟨v0, v1, rfl⟩
theorem cells_at {w : World} {base b off k n : Nat} {cs : List Value} (h : w.cells? base ((⟨b, off, none⟩ : Addr).add k) n = some cs) : ∀ j, j < n → w.cell? ⟨b, off + k + j, none⟩ = cs[j]? := by
  intro j hj
  have := (World.cells?_some h).2.2 j hj
  rwa [add_add, add_plain, ← Nat.add_assoc] at this
theorem cells_first {w : World} {base b off n : Nat} {spot : Option Nat} {cs : List Value} (h : w.cells? base ((⟨b, off, spot⟩ : Addr).add 0) n = some cs) (hn : 0 < n) : spot = none ∧ b < w.heap.size := by
  obtain ⟨_, hl, hc⟩ := World.cells?_some h
  have h0 := hc 0 hn
  have h1 : w.cell? ⟨b, off, spot⟩ = some cs[0] := by rw [← List.getElem?_eq_getElem (by omega)]; simpa [Addr.add] using h0
  exact ⟨by simpa using World.cell?_spot h1, World.block_lt_of_cell? w _ h1⟩
set_option maxRecDepth 10000 in
theorem open_core : ∀ (fuel : Nat) (cs : List Value) (x : DataW H × List MemPlace), DataW.trod enc Tryd.prog W base sp held fuel 30 cs = some x → ∃ (t : Co) (u : Value), cs = coL t u ∧ CSits W t u := by
  intro fuel
  induction fuel using Nat.strongRecOn with
  | ind fuel ih =>
    intro cs x hf
    obtain ⟨xs, m, rfl, hx1, hl, hlen, hf⟩ := DataW.trod_struct Tryd.underlying30 hf
    rw [ce_core] at hl
    obtain ⟨v0, v1, v2, v3, rfl⟩ := list_four cs hl
    obtain ⟨z0, z1, z2, z3, rfl⟩ := list_four xs hlen
    have f0 : DataW.trod enc Tryd.prog W base sp held m 3 (([v0, v1, v2, v3].drop 0).take (Tryd.prog.cellsOf 3)) = [z0, z1, z2, z3][0]? := hf 0 _ rfl
    have f1 : DataW.trod enc Tryd.prog W base sp held m 2 (([v0, v1, v2, v3].drop 1).take (Tryd.prog.cellsOf 2)) = [z0, z1, z2, z3][1]? := hf 1 _ rfl
    have f2 : DataW.trod enc Tryd.prog W base sp held m 2 (([v0, v1, v2, v3].drop 2).take (Tryd.prog.cellsOf 2)) = [z0, z1, z2, z3][2]? := hf 2 _ rfl
    have f3 : DataW.trod enc Tryd.prog W base sp held m 28 (([v0, v1, v2, v3].drop 3).take (Tryd.prog.cellsOf 28)) = [z0, z1, z2, z3][3]? := hf 3 _ rfl
    simp only [ce_int, ce_int64, ce_cores, List.drop_zero, List.take_succ_cons, List.take_zero, List.drop_succ_cons, List.getElem?_cons_zero, List.getElem?_cons_succ] at f0 f1 f2 f3
    obtain ⟨a0, e0, -, w0⟩ := DataW.trod_int Tryd.underlying3 f0
    obtain ⟨a1, e1, -, w1⟩ := DataW.trod_int Tryd.underlying2 f1
    obtain ⟨a2, e2, -, w2⟩ := DataW.trod_int Tryd.underlying2 f2
    simp only [List.cons.injEq, and_true] at e0 e1 e2
    have fin : ∀ (ps : List Co), CAt W v3 ps → ∃ (t : Co) (u : Value), [v0, v1, v2, v3] = coL t u ∧ CSits W t u := fun ps hp =>
      ⟨⟨a0, a1, a2, ps⟩, v3, by rw [e0, e1, e2], csits_iff.2 ⟨⟨in64 w0, in64 w1, in64 w2⟩, hp⟩⟩
    rcases DataW.trod_slice Tryd.underlying28 f3 with ⟨h5, _⟩ | ⟨a, len, cap, elems, rest, n, hmn, h5, hx5, hb5, hl5, hm5, hlen5, hel5, _, _⟩
    · simp only [List.cons.injEq, and_true] at h5
      exact fin [] ⟨none, 0, by rw [h5]; rfl, Nat.le_refl _, by decide, .inl rfl⟩
    · simp only [List.cons.injEq, and_true] at h5
      by_cases h0 : len = 0
      · exact fin [] ⟨some a, cap, by rw [h5, h0]; rfl, by simp, hm5, .inl rfl⟩
      have each : ∀ i, ∃ tu : Co × Value, i < len → ∃ cs', W.cells? base (a.add (i * 4)) 4 = some cs' ∧ cs' = coL tu.1 tu.2 ∧ CSits W tu.1 tu.2 := by
        intro i
        by_cases hi : i < len
        · have key := hel5 i hi
          rw [ce_core, List.getElem?_eq_getElem (by omega)] at key
          obtain ⟨cs', g1, g2⟩ := Option.bind_eq_some_iff.1 key
          obtain ⟨t, u, g3, g4⟩ := ih n (by omega) cs' _ g2
          exact ⟨(t, u), fun _ => ⟨cs', g1, g3, g4⟩⟩
        · exact ⟨(⟨0, 0, 0, []⟩, .nilIface), fun h => absurd h hi⟩
      obtain ⟨b, off, spot⟩ := a
      obtain ⟨rfl, hbl⟩ : spot = none ∧ b < W.heap.size := by
        obtain ⟨cs', g1, _⟩ := (each 0).choose_spec (by omega)
        exact cells_first (by simpa using g1) (by decide)
      refine fin ((List.range len).map fun i => (each i).choose.1) ⟨_, cap, by rw [h5]; simp, by simp; omega, hm5, .inr ⟨b, off, rfl, hbl, fun i hi => ?_⟩⟩
      have hi' : i < len := by simpa using hi
      obtain ⟨cs', g1, g3, g4⟩ := (each i).choose_spec hi'
      refine ⟨(each i).choose.2, ?_, by simpa using g4⟩
      have hc := cells_at g1
      rw [g3] at hc
      simp only [List.getElem_map, List.getElem_range]
      exact ⟨by simpa using hc 0 (by decide), by simpa using hc 1 (by decide), by simpa using hc 2 (by decide), by simpa using hc 3 (by decide)⟩
end
end Go.Proofs.YtigldebdljfnbaaDoor
end
section
namespace Go.Proofs.YtigldebdljfnbaaDoor
open Go.ChangeShapes Go.WideShapes Go.RowKit Go.Deep Go.ChangeMaps
set_option maxRecDepth 20000

section
variable {H : Type} {enc : TypeId × Value → H} {W : World} {base : Nat} {sp : Nat → Bool} {held : Bool}
theorem open_rows {τ e : TypeId} {α : Type} (d : α) (ok : α → Prop) (hd : ok d) (L : α → List Value) (k : Nat) (hk : 0 < k) (hu : Tryd.prog.underlying τ = some (.slice e)) (hce : Tryd.prog.cellsOf e = k) (hL : ∀ a, (L a).length = k)
    (hone : ∀ fuel cs x, DataW.trod enc Tryd.prog W base sp held fuel e cs = some x → ∃ a, cs = L a ∧ ok a) {fuel : Nat} {v : Value} {x : DataW H × List MemPlace} (hf : DataW.trod enc Tryd.prog W base sp held fuel τ [v] = some x) :
    ∃ l : List α, (∀ a, a ∈ l → ok a) ∧ RowsK W v l.length k (fun i => L (l.getD i d)) := by
  rcases DataW.trod_slice hu hf with ⟨h5, _⟩ | ⟨a, len, cap, elems, rest, n, hmn, h5, hx5, hb5, hl5, hm5, hlen5, hel5, _, _⟩
  · simp only [List.cons.injEq, and_true] at h5
    exact ⟨[], (fun a h => by cases h), none, 0, by rw [h5]; rfl, Nat.le_refl _, by decide, .inl rfl⟩
  · simp only [List.cons.injEq, and_true] at h5
    have hm6 : cap ≤ 9223372036854775807 := by have : maxLen = 9223372036854775807 := rfl; omega
    by_cases h0 : len = 0
    · exact ⟨[], (fun a h => by cases h), some a, cap, by rw [h5, h0]; rfl, Nat.zero_le _, hm6, .inl rfl⟩
    have each : ∀ i, ∃ p : α, ok p ∧ (i < len → W.cells? base (a.add (i * k)) k = some (L p)) := by
      intro i
      by_cases hi : i < len
      · have key := hel5 i hi
        rw [hce, List.getElem?_eq_getElem (by omega)] at key
        obtain ⟨cs', g1, g2⟩ := Option.bind_eq_some_iff.1 key
        obtain ⟨p, rfl, hp⟩ := hone _ _ _ g2
        exact ⟨p, hp, fun _ => g1⟩
      · exact ⟨d, hd, fun h => absurd h hi⟩
    obtain ⟨b, off, spot⟩ := a
    obtain ⟨rfl, hbl⟩ : spot = none ∧ b < W.heap.size := cells_first (by simpa using (each 0).choose_spec.2 (by omega)) hk
    have gl : ∀ i, i < len → ((List.range len).map fun i => (each i).choose).getD i d = (each i).choose := fun i hi => by simp [List.getD, hi]
    refine ⟨(List.range len).map fun i => (each i).choose, fun a ha => ?_, _, cap, by rw [h5]; simp, by simpa using hl5, hm6, .inr ⟨b, off, rfl, hbl, fun i hi j x hx => ?_⟩⟩
    · obtain ⟨i, -, rfl⟩ := List.mem_map.1 ha
      exact (each i).choose_spec.1
    · have hi' : i < len := by simpa using hi
      simp only at hx
      rw [gl i hi'] at hx
      have hj : j < k := by
        have := (List.getElem?_eq_some_iff.1 hx).1
        rw [hL] at this
        exact this
      rw [cells_at ((each i).choose_spec.2 hi') j hj, hx]
theorem cd_string : Tryd.prog.cellsOf 9 = 1 := by kernel_rfl
theorem cd_win : Tryd.prog.cellsOf 71 = 4 := by kernel_rfl
theorem cd_cron : Tryd.prog.cellsOf 75 = 5 := by kernel_rfl
theorem cd_u64 : Tryd.prog.cellsOf 73 = 1 := by kernel_rfl
theorem cd_guard : Tryd.prog.cellsOf 58 = 8 := by kernel_rfl
theorem cd_rules : Tryd.prog.cellsOf 24 = 5 := by kernel_rfl
theorem cd_plan : Tryd.prog.cellsOf 32 = 14 := by kernel_rfl
theorem cd_strings : Tryd.prog.cellsOf 22 = 1 := by kernel_rfl
theorem cd_wins : Tryd.prog.cellsOf 25 = 1 := by kernel_rfl
theorem cd_crons : Tryd.prog.cellsOf 26 = 1 := by kernel_rfl
theorem cd_guards : Tryd.prog.cellsOf 27 = 1 := by kernel_rfl
theorem list_five {α : Type} : ∀ (c : List α), c.length = 5 → ∃ v0 v1 v2 v3 v4, c = [v0, v1, v2, v3, v4]
  | [v0, v1, v2, v3, v4], _ => ⟨v0, v1, v2, v3, v4, rfl⟩
theorem list_eight {α : Type} : ∀ (c : List α), c.length = 8 → ∃ v0 v1 v2 v3 v4 v5 v6 v7, c = [v0, v1, v2, v3, v4, v5, v6, v7]
  | [v0, v1, v2, v3, v4, v5, v6, v7], _ => ⟨v0, v1, v2, v3, v4, v5, v6, v7, rfl⟩
theorem list_fourteen {α : Type} : ∀ (c : List α), c.length = 14 → ∃ v0 v1 v2 v3 v4 v5 v6 v7 v8 v9 va vb vc vd, c = [v0, v1, v2, v3, v4, v5, v6, v7, v8, v9, va, vb, vc, vd]
  | [v0, v1, v2, v3, v4, v5, v6, v7, v8, v9, va, vb, vc, vd], _ => ⟨v0, v1, v2, v3, v4, v5, v6, v7, v8, v9, va, vb, vc, vd, rfl⟩
theorem list_seven {α : Type} : ∀ (c : List α), c.length = 7 → ∃ v0 v1 v2 v3 v4 v5 v6, c = [v0, v1, v2, v3, v4, v5, v6]
  | [v0, v1, v2, v3, v4, v5, v6], _ => ⟨v0, v1, v2, v3, v4, v5, v6, rfl⟩
theorem one_string (fuel : Nat) (cs : List Value) (x : DataW H × List MemPlace) (hf : DataW.trod enc Tryd.prog W base sp held fuel 9 cs = some x) : ∃ a : ByteArray, cs = [.string a] ∧ True := by
  obtain ⟨s, h, -⟩ := DataW.trod_string Tryd.underlying9 hf
  exact ⟨s, h, trivial⟩
theorem one_win (fuel : Nat) (cs : List Value) (x : DataW H × List MemPlace) (hf : DataW.trod enc Tryd.prog W base sp held fuel 71 cs = some x) : ∃ a : WiP, cs = wiL a ∧ WiOk a := by
  obtain ⟨xs, m, rfl, hx1, hl, hlen, hf⟩ := DataW.trod_struct Tryd.underlying71 hf
  rw [cd_win] at hl
  obtain ⟨v0, v1, v2, v3, rfl⟩ := list_four cs hl
  obtain ⟨z0, z1, z2, z3, rfl⟩ := list_four xs hlen
  have f0 : DataW.trod enc Tryd.prog W base sp held m 3 (([v0, v1, v2, v3].drop 0).take (Tryd.prog.cellsOf 3)) = [z0, z1, z2, z3][0]? := hf 0 _ rfl
  have f1 : DataW.trod enc Tryd.prog W base sp held m 3 (([v0, v1, v2, v3].drop 1).take (Tryd.prog.cellsOf 3)) = [z0, z1, z2, z3][1]? := hf 1 _ rfl
  have f2 : DataW.trod enc Tryd.prog W base sp held m 2 (([v0, v1, v2, v3].drop 2).take (Tryd.prog.cellsOf 2)) = [z0, z1, z2, z3][2]? := hf 2 _ rfl
  have f3 : DataW.trod enc Tryd.prog W base sp held m 2 (([v0, v1, v2, v3].drop 3).take (Tryd.prog.cellsOf 2)) = [z0, z1, z2, z3][3]? := hf 3 _ rfl
  simp only [ce_int, ce_int64, List.drop_zero, List.take_succ_cons, List.take_zero, List.drop_succ_cons, List.getElem?_cons_zero, List.getElem?_cons_succ] at f0 f1 f2 f3
  obtain ⟨a0, e0, -, w0⟩ := DataW.trod_int Tryd.underlying3 f0
  obtain ⟨a1, e1, -, w1⟩ := DataW.trod_int Tryd.underlying3 f1
  obtain ⟨a2, e2, -, w2⟩ := DataW.trod_int Tryd.underlying2 f2
  obtain ⟨a3, e3, -, w3⟩ := DataW.trod_int Tryd.underlying2 f3
  simp only [List.cons.injEq, and_true] at e0 e1 e2 e3
  exact ⟨⟨a0, a1, a2, a3⟩, by rw [e0, e1, e2, e3], ⟨in64 w0, in64 w1, in64 w2, in64 w3⟩⟩
theorem nat_u64 {n : Int} (h : (Lit.int .u64 n).wf = true) : ∃ k : Nat, n = (k : Int) ∧ k < 18446744073709551616 := by
  have := bounds_u64 h
  exact ⟨n.toNat, by omega, by omega⟩
theorem one_cron (fuel : Nat) (cs : List Value) (x : DataW H × List MemPlace) (hf : DataW.trod enc Tryd.prog W base sp held fuel 75 cs = some x) : ∃ a : Cr, cs = crL a ∧ a.Fits := by
  obtain ⟨xs, m, rfl, hx1, hl, hlen, hf⟩ := DataW.trod_struct Tryd.underlying75 hf
  rw [cd_cron] at hl
  obtain ⟨v0, v1, v2, v3, v4, rfl⟩ := list_five cs hl
  obtain ⟨z0, z1, z2, z3, z4, rfl⟩ := list_five xs hlen
  have f0 : DataW.trod enc Tryd.prog W base sp held m 73 (([v0, v1, v2, v3, v4].drop 0).take (Tryd.prog.cellsOf 73)) = [z0, z1, z2, z3, z4][0]? := hf 0 _ rfl
  have f1 : DataW.trod enc Tryd.prog W base sp held m 73 (([v0, v1, v2, v3, v4].drop 1).take (Tryd.prog.cellsOf 73)) = [z0, z1, z2, z3, z4][1]? := hf 1 _ rfl
  have f2 : DataW.trod enc Tryd.prog W base sp held m 73 (([v0, v1, v2, v3, v4].drop 2).take (Tryd.prog.cellsOf 73)) = [z0, z1, z2, z3, z4][2]? := hf 2 _ rfl
  have f3 : DataW.trod enc Tryd.prog W base sp held m 73 (([v0, v1, v2, v3, v4].drop 3).take (Tryd.prog.cellsOf 73)) = [z0, z1, z2, z3, z4][3]? := hf 3 _ rfl
  have f4 : DataW.trod enc Tryd.prog W base sp held m 73 (([v0, v1, v2, v3, v4].drop 4).take (Tryd.prog.cellsOf 73)) = [z0, z1, z2, z3, z4][4]? := hf 4 _ rfl
  simp only [cd_u64, List.drop_zero, List.take_succ_cons, List.take_zero, List.drop_succ_cons, List.getElem?_cons_zero, List.getElem?_cons_succ] at f0 f1 f2 f3 f4
  obtain ⟨a0, e0, -, w0⟩ := DataW.trod_int Tryd.underlying73 f0
  obtain ⟨a1, e1, -, w1⟩ := DataW.trod_int Tryd.underlying73 f1
  obtain ⟨a2, e2, -, w2⟩ := DataW.trod_int Tryd.underlying73 f2
  obtain ⟨a3, e3, -, w3⟩ := DataW.trod_int Tryd.underlying73 f3
  obtain ⟨a4, e4, -, w4⟩ := DataW.trod_int Tryd.underlying73 f4
  simp only [List.cons.injEq, and_true] at e0 e1 e2 e3 e4
  obtain ⟨k0, rfl, l0⟩ := nat_u64 w0
  obtain ⟨k1, rfl, l1⟩ := nat_u64 w1
  obtain ⟨k2, rfl, l2⟩ := nat_u64 w2
  obtain ⟨k3, rfl, l3⟩ := nat_u64 w3
  obtain ⟨k4, rfl, l4⟩ := nat_u64 w4
  exact ⟨⟨k0, k1, k2, k3, k4⟩, by rw [e0, e1, e2, e3, e4], ⟨l0, l1, l2, l3, l4⟩⟩
theorem one_guard (fuel : Nat) (cs : List Value) (x : DataW H × List MemPlace) (hf : DataW.trod enc Tryd.prog W base sp held fuel 58 cs = some x) : ∃ a : (Co × Value) × (Co × Value), cs = coL a.1.1 a.1.2 ++ coL a.2.1 a.2.2 ∧ (CSits W a.1.1 a.1.2 ∧ CSits W a.2.1 a.2.2) := by
  obtain ⟨xs, m, rfl, hx1, hl, hlen, hf⟩ := DataW.trod_struct Tryd.underlying58 hf
  rw [cd_guard] at hl
  obtain ⟨v0, v1, v2, v3, v4, v5, v6, v7, rfl⟩ := list_eight cs hl
  obtain ⟨z0, z1, rfl⟩ := list_two xs hlen
  have f0 : DataW.trod enc Tryd.prog W base sp held m 30 (([v0, v1, v2, v3, v4, v5, v6, v7].drop 0).take (Tryd.prog.cellsOf 30)) = [z0, z1][0]? := hf 0 _ rfl
  have f1 : DataW.trod enc Tryd.prog W base sp held m 30 (([v0, v1, v2, v3, v4, v5, v6, v7].drop 4).take (Tryd.prog.cellsOf 30)) = [z0, z1][1]? := hf 1 _ rfl
  simp only [ce_core, List.drop_zero, List.take_succ_cons, List.take_zero, List.drop_succ_cons, List.getElem?_cons_zero, List.getElem?_cons_succ] at f0 f1
  obtain ⟨t0, u0, e0, s0⟩ := open_core _ _ _ f0
  obtain ⟨t1, u1, e1, s1⟩ := open_core _ _ _ f1
  exact ⟨((t0, u0), (t1, u1)), by show _ = coL t0 u0 ++ coL t1 u1; rw [← e0, ← e1]; rfl, s0, s1⟩
theorem open_gs {fuel : Nat} {v : Value} {x : DataW H × List MemPlace} (hf : DataW.trod enc Tryd.prog W base sp held fuel 27 [v] = some x) : ∃ l, GsAt W v l := by
  obtain ⟨l, ho, hr⟩ := open_rows (((⟨0, 0, 0, []⟩ : Co), Value.slice none 0 0), ((⟨0, 0, 0, []⟩ : Co), Value.slice none 0 0)) (fun a : (Co × Value) × (Co × Value) => CSits W a.1.1 a.1.2 ∧ CSits W a.2.1 a.2.2) ⟨csits_iff.2 ⟨⟨zero_64, zero_64, zero_64⟩, none, 0, rfl, Nat.le_refl _, by omega, .inl rfl⟩, csits_iff.2 ⟨⟨zero_64, zero_64, zero_64⟩, none, 0, rfl, Nat.le_refl _, by omega, .inl rfl⟩⟩ (fun a => coL a.1.1 a.1.2 ++ coL a.2.1 a.2.2) 8 (by decide) Tryd.underlying27 cd_guard (fun a => rfl) (fun fuel cs x h => one_guard fuel cs x h) hf
  refine ⟨l.map (fun a => (a.1.1, a.2.1)), ?_⟩
  obtain ⟨ad, cap, hv, h1, h2, hp⟩ := hr
  refine ⟨ad, cap, by rw [hv]; simp, by simpa using h1, h2, ?_⟩
  rcases hp with hp | ⟨b, off, ha, hl, hc⟩
  · exact .inl (by simpa using hp)
  · refine .inr ⟨b, off, ha, hl, fun i hi => ?_⟩
    have hi' : i < l.length := by simpa using hi
    have hg : l.getD i (((⟨0, 0, 0, []⟩ : Co), Value.slice none 0 0), ((⟨0, 0, 0, []⟩ : Co), Value.slice none 0 0)) = l[i] := by simp [List.getD, hi']
    have hci := hc i hi'
    simp only [hg] at hci
    obtain ⟨s1, s2⟩ := ho l[i] (List.getElem_mem hi')
    refine ⟨l[i].1.2, l[i].2.2, ?_, ?_, by simpa using s1, by simpa using s2⟩
    · simp only [List.getElem_map]
      exact ⟨hci 0 _ rfl, hci 1 _ rfl, hci 2 _ rfl, hci 3 _ rfl⟩
    · simp only [List.getElem_map]
      exact ⟨hci 4 _ rfl, by rw [Nat.add_assoc]; exact hci 5 _ rfl, by rw [Nat.add_assoc]; exact hci 6 _ rfl, by rw [Nat.add_assoc]; exact hci 7 _ rfl⟩
theorem open_rules {fuel : Nat} {cs : List Value} {x : DataW H × List MemPlace} (hf : DataW.trod enc Tryd.prog W base sp held fuel 24 cs = some x) : ∃ r : RuP, cs = [.int .i64 r.mn, .int .i64 r.mx, .int .i64 r.st, .int .i64 r.up, .int .i64 r.dn] ∧ RuOk r := by
  obtain ⟨xs, m, rfl, hx1, hl, hlen, hf⟩ := DataW.trod_struct Tryd.underlying24 hf
  rw [cd_rules] at hl
  obtain ⟨v0, v1, v2, v3, v4, rfl⟩ := list_five cs hl
  obtain ⟨z0, z1, z2, z3, z4, rfl⟩ := list_five xs hlen
  have f0 : DataW.trod enc Tryd.prog W base sp held m 2 (([v0, v1, v2, v3, v4].drop 0).take (Tryd.prog.cellsOf 2)) = [z0, z1, z2, z3, z4][0]? := hf 0 _ rfl
  have f1 : DataW.trod enc Tryd.prog W base sp held m 2 (([v0, v1, v2, v3, v4].drop 1).take (Tryd.prog.cellsOf 2)) = [z0, z1, z2, z3, z4][1]? := hf 1 _ rfl
  have f2 : DataW.trod enc Tryd.prog W base sp held m 2 (([v0, v1, v2, v3, v4].drop 2).take (Tryd.prog.cellsOf 2)) = [z0, z1, z2, z3, z4][2]? := hf 2 _ rfl
  have f3 : DataW.trod enc Tryd.prog W base sp held m 2 (([v0, v1, v2, v3, v4].drop 3).take (Tryd.prog.cellsOf 2)) = [z0, z1, z2, z3, z4][3]? := hf 3 _ rfl
  have f4 : DataW.trod enc Tryd.prog W base sp held m 2 (([v0, v1, v2, v3, v4].drop 4).take (Tryd.prog.cellsOf 2)) = [z0, z1, z2, z3, z4][4]? := hf 4 _ rfl
  simp only [ce_int64, List.drop_zero, List.take_succ_cons, List.take_zero, List.drop_succ_cons, List.getElem?_cons_zero, List.getElem?_cons_succ] at f0 f1 f2 f3 f4
  obtain ⟨a0, e0, -, w0⟩ := DataW.trod_int Tryd.underlying2 f0
  obtain ⟨a1, e1, -, w1⟩ := DataW.trod_int Tryd.underlying2 f1
  obtain ⟨a2, e2, -, w2⟩ := DataW.trod_int Tryd.underlying2 f2
  obtain ⟨a3, e3, -, w3⟩ := DataW.trod_int Tryd.underlying2 f3
  obtain ⟨a4, e4, -, w4⟩ := DataW.trod_int Tryd.underlying2 f4
  simp only [List.cons.injEq, and_true] at e0 e1 e2 e3 e4
  exact ⟨⟨a0, a1, a2, a3, a4⟩, by rw [e0, e1, e2, e3, e4], ⟨in64 w0, in64 w1, in64 w2, in64 w3, in64 w4⟩⟩
theorem open_planarg {r : Reach} {b0 : Nat} {v : Value} {d : DataW H} {ps : List MemPlace} (hval : Value.okWide Tryd.prog W r b0 32 v) (hd : DataW.Trod enc Tryd.prog W base sp held 32 v d ps) : ∃ (p : PlP) (u : PlV), v = plV p u ∧ PlAt W p u := by
  simp only [Value.okWide, Tryd.underlying32] at hval
  obtain ⟨cs, rfl, _⟩ := hval
  obtain ⟨fuel, hf⟩ := hd
  obtain ⟨c⟩ := cs
  simp only [Value.cells] at hf
  obtain ⟨xs, m, rfl, hx1, hl, hlen, hf⟩ := DataW.trod_struct Tryd.underlying32 hf
  rw [cd_plan] at hl
  obtain ⟨v0, v1, v2, v3, v4, v5, v6, v7, v8, v9, va, vb, vc, vd, rfl⟩ := list_fourteen c hl
  obtain ⟨z0, z1, z2, z3, z4, z5, z6, rfl⟩ := list_seven xs hlen
  have f0 : DataW.trod enc Tryd.prog W base sp held m 22 (([v0, v1, v2, v3, v4, v5, v6, v7, v8, v9, va, vb, vc, vd].drop 0).take (Tryd.prog.cellsOf 22)) = [z0, z1, z2, z3, z4, z5, z6][0]? := hf 0 _ rfl
  have f1 : DataW.trod enc Tryd.prog W base sp held m 24 (([v0, v1, v2, v3, v4, v5, v6, v7, v8, v9, va, vb, vc, vd].drop 1).take (Tryd.prog.cellsOf 24)) = [z0, z1, z2, z3, z4, z5, z6][1]? := hf 1 _ rfl
  have f2 : DataW.trod enc Tryd.prog W base sp held m 25 (([v0, v1, v2, v3, v4, v5, v6, v7, v8, v9, va, vb, vc, vd].drop 6).take (Tryd.prog.cellsOf 25)) = [z0, z1, z2, z3, z4, z5, z6][2]? := hf 2 _ rfl
  have f3 : DataW.trod enc Tryd.prog W base sp held m 26 (([v0, v1, v2, v3, v4, v5, v6, v7, v8, v9, va, vb, vc, vd].drop 7).take (Tryd.prog.cellsOf 26)) = [z0, z1, z2, z3, z4, z5, z6][3]? := hf 3 _ rfl
  have f4 : DataW.trod enc Tryd.prog W base sp held m 3 (([v0, v1, v2, v3, v4, v5, v6, v7, v8, v9, va, vb, vc, vd].drop 8).take (Tryd.prog.cellsOf 3)) = [z0, z1, z2, z3, z4, z5, z6][4]? := hf 4 _ rfl
  have f5 : DataW.trod enc Tryd.prog W base sp held m 27 (([v0, v1, v2, v3, v4, v5, v6, v7, v8, v9, va, vb, vc, vd].drop 9).take (Tryd.prog.cellsOf 27)) = [z0, z1, z2, z3, z4, z5, z6][5]? := hf 5 _ rfl
  have f6 : DataW.trod enc Tryd.prog W base sp held m 30 (([v0, v1, v2, v3, v4, v5, v6, v7, v8, v9, va, vb, vc, vd].drop 10).take (Tryd.prog.cellsOf 30)) = [z0, z1, z2, z3, z4, z5, z6][6]? := hf 6 _ rfl
  simp only [ce_int, ce_core, cd_strings, cd_rules, cd_wins, cd_crons, cd_guards, List.drop_zero, List.take_succ_cons, List.take_zero, List.drop_succ_cons, List.getElem?_cons_zero, List.getElem?_cons_succ] at f0 f1 f2 f3 f4 f5 f6
  obtain ⟨l0, -, g0⟩ := open_rows (default : ByteArray) (fun _ => True) trivial (fun a => [Value.string a]) 1 (by decide) Tryd.underlying22 cd_string (fun a => rfl) one_string f0
  obtain ⟨ru, e1, g1⟩ := open_rules f1
  obtain ⟨l2, k2, g2⟩ := open_rows wi0 WiOk ⟨zero_64, zero_64, zero_64, zero_64⟩ wiL 4 (by decide) Tryd.underlying25 cd_win (fun a => rfl) one_win f2
  obtain ⟨l3, k3, g3⟩ := open_rows cr0 Cr.Fits ⟨by decide, by decide, by decide, by decide, by decide⟩ crL 5 (by decide) Tryd.underlying26 cd_cron (fun a => rfl) one_cron f3
  obtain ⟨a4, e4, -, w4⟩ := DataW.trod_int Tryd.underlying3 f4
  obtain ⟨l5, g5⟩ := open_gs f5
  obtain ⟨t6, u6, e6, g6⟩ := open_core _ _ _ f6
  simp only [List.cons.injEq, and_true] at e1 e4 e6
  obtain ⟨q1, q2, q3, q4, q5⟩ := e1
  obtain ⟨r1, r2, r3, r4⟩ := e6
  exact ⟨⟨l0, ru, l2, l3, a4, l5, t6⟩, ⟨v0, v6, v7, v9, vd⟩, by rw [q1, q2, q3, q4, q5, e4, r1, r2, r3], ⟨g1, in64 w4, k2, k3, g0, g2, g3, g5, by rw [r4]; exact g6⟩⟩
end

theorem by_guard : Tryd.prog.bytesOf 58 = 96 := by kernel_rfl
section
variable {H : Type} {enc : TypeId × Value → H} {W : World} {base : Nat} {sp : Nat → Bool} {held : Bool}
end
end Go.Proofs.YtigldebdljfnbaaDoor
end

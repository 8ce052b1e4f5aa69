/- Programs, bytes and numbers among the arguments; what the program's text lays. -/
import Derived.Test.YthfnjlfhaibbeaaDoorDcO
import Derived.Test.YthfnjlfhaibbeaaDoorRows
import Derived.OpenShut
import Derived.ChangeSlices
import Derived.ChangeMaps5
import Derived.Deep.Slices
import Derived.Lib.LaidTab
import Derived.Lib.LaidU8
import Derived.Lay
import Derived.MakeChecks
import Derived.Deep.DeepHandedRow
namespace Go.Proofs.YthfnjlfhaibbeaaDoor
open Go.ChangeShapes Go.WideShapes Go.RowKit Go.Deep Go.ChangeMaps
set_option maxRecDepth 20000

theorem in64 {n : Int} (h : (Lit.int .i64 n).wf = true) : C64 n := by have := bounds_i64 h; exact ⟨by omega, by omega⟩
section
variable {H : Type} {enc : TypeId × Value → H} {W : World} {base : Nat} {sp : Nat → Bool} {held : Bool}
theorem ce_int : Tryd.prog.cellsOf 3 = 1 := by kernel_rfl
theorem ce_int64 : Tryd.prog.cellsOf 2 = 1 := by kernel_rfl
theorem cd_u8 : Tryd.prog.cellsOf 5 = 1 := by kernel_rfl
theorem cd_win : Tryd.prog.cellsOf 65 = 4 := by kernel_rfl
theorem cd_cron : Tryd.prog.cellsOf 68 = 5 := by kernel_rfl
theorem cd_instr : Tryd.prog.cellsOf 51 = 2 := by kernel_rfl
theorem cd_u64 : Tryd.prog.cellsOf 60 = 1 := by kernel_rfl
theorem cd_rules : Tryd.prog.cellsOf 25 = 5 := by kernel_rfl
theorem cd_prog : Tryd.prog.cellsOf 31 = 12 := by kernel_rfl
theorem cd_i64s : Tryd.prog.cellsOf 26 = 1 := by kernel_rfl
theorem cd_wins : Tryd.prog.cellsOf 27 = 1 := by kernel_rfl
theorem cd_crons : Tryd.prog.cellsOf 28 = 1 := by kernel_rfl
theorem cd_instrs : Tryd.prog.cellsOf 29 = 1 := by kernel_rfl
theorem list_two {α : Type} : ∀ (c : List α), c.length = 2 → ∃ v0 v1, c = [v0, v1]
  | [v0, v1], _ => ⟨v0, v1, rfl⟩
theorem list_four {α : Type} : ∀ (c : List α), c.length = 4 → ∃ v0 v1 v2 v3, c = [v0, v1, v2, v3]
  | [v0, v1, v2, v3], _ => ⟨v0, v1, v2, v3, rfl⟩
theorem list_five {α : Type} : ∀ (c : List α), c.length = 5 → ∃ v0 v1 v2 v3 v4, c = [v0, v1, v2, v3, v4]
  | [v0, v1, v2, v3, v4], _ => ⟨v0, v1, v2, v3, v4, rfl⟩
theorem list_eight {α : Type} : ∀ (c : List α), c.length = 8 → ∃ v0 v1 v2 v3 v4 v5 v6 v7, c = [v0, v1, v2, v3, v4, v5, v6, v7]
  | [v0, v1, v2, v3, v4, v5, v6, v7], _ => ⟨v0, v1, v2, v3, v4, v5, v6, v7, rfl⟩
theorem list_twelve {α : Type} : ∀ (c : List α), c.length = 12 → ∃ v0 v1 v2 v3 v4 v5 v6 v7 v8 v9 va vb, c = [v0, v1, v2, v3, v4, v5, v6, v7, v8, v9, va, vb]
  | [v0, v1, v2, v3, v4, v5, v6, v7, v8, v9, va, vb], _ => ⟨v0, v1, v2, v3, v4, v5, v6, v7, v8, v9, va, vb, rfl⟩
theorem cells_at {w : World} {base b off k n : Nat} {cs : List Value} (h : w.cells? base ((⟨b, off, none⟩ : Addr).add k) n = some cs) : ∀ j, j < n → w.cell? ⟨b, off + k + j, none⟩ = cs[j]? := by
  intro j hj
  have := (World.cells?_some h).2.2 j hj
  rwa [add_add, add_plain, ← Nat.add_assoc] at this
theorem cells_first {w : World} {base b off n : Nat} {spot : Option Nat} {cs : List Value} (h : w.cells? base ((⟨b, off, spot⟩ : Addr).add 0) n = some cs) (hn : 0 < n) : spot = none ∧ b < w.heap.size := by
  obtain ⟨_, hl, hc⟩ := World.cells?_some h
  have h0 := hc 0 hn
  have h1 : w.cell? ⟨b, off, spot⟩ = some cs[0] := by rw [← List.getElem?_eq_getElem (by omega)]; simpa [Addr.add] using h0
  exact ⟨by simpa using World.cell?_spot h1, World.block_lt_of_cell? w _ h1⟩
set_option maxRecDepth 10000 in
theorem open_rows {τ e : TypeId} {α : Type} (d : α) (ok : α → Prop) (hd : ok d) (L : α → List Value) (k : Nat) (hk : 0 < k) (hu : Tryd.prog.underlying τ = some (.slice e)) (hce : Tryd.prog.cellsOf e = k) (hL : ∀ a, (L a).length = k)
    (hone : ∀ fuel cs x, DataW.trod enc Tryd.prog W base sp held fuel e cs = some x → ∃ a, cs = L a ∧ ok a) {fuel : Nat} {v : Value} {x : DataW H × List MemPlace} (hf : DataW.trod enc Tryd.prog W base sp held fuel τ [v] = some x) :
    ∃ l : List α, (∀ a, a ∈ l → ok a) ∧ RowsK W v l.length k (fun i => L (l.getD i d)) := by
  rcases DataW.trod_slice hu hf with ⟨h5, _⟩ | ⟨a, len, cap, elems, rest, n, hmn, h5, hx5, hb5, hl5, hm5, hlen5, hel5, _, _⟩
  · simp only [List.cons.injEq, and_true] at h5
    exact ⟨[], (fun a h => by cases h), none, 0, by rw [h5]; rfl, Nat.le_refl _, by decide, .inl rfl⟩
  · simp only [List.cons.injEq, and_true] at h5
    have hm6 : cap ≤ 9223372036854775807 := by have : maxLen = 9223372036854775807 := rfl; omega
    by_cases h0 : len = 0
    · exact ⟨[], (fun a h => by cases h), some a, cap, by rw [h5, h0]; rfl, Nat.zero_le _, hm6, .inl rfl⟩
    have each : ∀ i, ∃ p : α, ok p ∧ (i < len → W.cells? base (a.add (i * k)) k = some (L p)) := by
      intro i
      by_cases hi : i < len
      · have key := hel5 i hi
        rw [hce, List.getElem?_eq_getElem (by omega)] at key
        obtain ⟨cs', g1, g2⟩ := Option.bind_eq_some_iff.1 key
        obtain ⟨p, rfl, hp⟩ := hone _ _ _ g2
        exact ⟨p, hp, fun _ => g1⟩
      · exact ⟨d, hd, fun h => absurd h hi⟩
    obtain ⟨b, off, spot⟩ := a
    obtain ⟨rfl, hbl⟩ : spot = none ∧ b < W.heap.size := cells_first (by simpa using (each 0).choose_spec.2 (by omega)) hk
    have gl : ∀ i, i < len → ((List.range len).map fun i => (each i).choose).getD i d = (each i).choose := fun i hi => by simp [List.getD, hi]
    refine ⟨(List.range len).map fun i => (each i).choose, fun a ha => ?_, _, cap, by rw [h5]; simp, by simpa using hl5, hm6, .inr ⟨b, off, rfl, hbl, fun i hi j x hx => ?_⟩⟩
    · obtain ⟨i, -, rfl⟩ := List.mem_map.1 ha
      exact (each i).choose_spec.1
    · have hi' : i < len := by simpa using hi
      simp only at hx
      rw [gl i hi'] at hx
      have hj : j < k := by
        have := (List.getElem?_eq_some_iff.1 hx).1
        rw [hL] at this
        exact this
      rw [cells_at ((each i).choose_spec.2 hi') j hj, hx]
theorem one_win (fuel : Nat) (cs : List Value) (x : DataW H × List MemPlace) (hf : DataW.trod enc Tryd.prog W base sp held fuel 65 cs = some x) : ∃ a : WiP, cs = wiL a ∧ WiOk a := by
  obtain ⟨xs, m, rfl, hx1, hl, hlen, hf⟩ := DataW.trod_struct Tryd.underlying65 hf
  rw [cd_win] at hl
  obtain ⟨v0, v1, v2, v3, rfl⟩ := list_four cs hl
  obtain ⟨z0, z1, z2, z3, rfl⟩ := list_four xs hlen
  have f0 : DataW.trod enc Tryd.prog W base sp held m 3 (([v0, v1, v2, v3].drop 0).take (Tryd.prog.cellsOf 3)) = [z0, z1, z2, z3][0]? := hf 0 _ rfl
  have f1 : DataW.trod enc Tryd.prog W base sp held m 3 (([v0, v1, v2, v3].drop 1).take (Tryd.prog.cellsOf 3)) = [z0, z1, z2, z3][1]? := hf 1 _ rfl
  have f2 : DataW.trod enc Tryd.prog W base sp held m 2 (([v0, v1, v2, v3].drop 2).take (Tryd.prog.cellsOf 2)) = [z0, z1, z2, z3][2]? := hf 2 _ rfl
  have f3 : DataW.trod enc Tryd.prog W base sp held m 2 (([v0, v1, v2, v3].drop 3).take (Tryd.prog.cellsOf 2)) = [z0, z1, z2, z3][3]? := hf 3 _ rfl
  simp only [ce_int, ce_int64, List.drop_zero, List.take_succ_cons, List.take_zero, List.drop_succ_cons, List.getElem?_cons_zero, List.getElem?_cons_succ] at f0 f1 f2 f3
  obtain ⟨a0, e0, -, w0⟩ := DataW.trod_int Tryd.underlying3 f0
  obtain ⟨a1, e1, -, w1⟩ := DataW.trod_int Tryd.underlying3 f1
  obtain ⟨a2, e2, -, w2⟩ := DataW.trod_int Tryd.underlying2 f2
  obtain ⟨a3, e3, -, w3⟩ := DataW.trod_int Tryd.underlying2 f3
  simp only [List.cons.injEq, and_true] at e0 e1 e2 e3
  exact ⟨⟨a0, a1, a2, a3⟩, by rw [e0, e1, e2, e3], ⟨in64 w0, in64 w1, in64 w2, in64 w3⟩⟩
theorem nat_u64 {n : Int} (h : (Lit.int .u64 n).wf = true) : ∃ k : Nat, n = (k : Int) ∧ k < 18446744073709551616 := by
  have := bounds_u64 h
  exact ⟨n.toNat, by omega, by omega⟩
theorem one_cron (fuel : Nat) (cs : List Value) (x : DataW H × List MemPlace) (hf : DataW.trod enc Tryd.prog W base sp held fuel 68 cs = some x) : ∃ a : Cr, cs = crL a ∧ a.Fits := by
  obtain ⟨xs, m, rfl, hx1, hl, hlen, hf⟩ := DataW.trod_struct Tryd.underlying68 hf
  rw [cd_cron] at hl
  obtain ⟨v0, v1, v2, v3, v4, rfl⟩ := list_five cs hl
  obtain ⟨z0, z1, z2, z3, z4, rfl⟩ := list_five xs hlen
  have f0 : DataW.trod enc Tryd.prog W base sp held m 60 (([v0, v1, v2, v3, v4].drop 0).take (Tryd.prog.cellsOf 60)) = [z0, z1, z2, z3, z4][0]? := hf 0 _ rfl
  have f1 : DataW.trod enc Tryd.prog W base sp held m 60 (([v0, v1, v2, v3, v4].drop 1).take (Tryd.prog.cellsOf 60)) = [z0, z1, z2, z3, z4][1]? := hf 1 _ rfl
  have f2 : DataW.trod enc Tryd.prog W base sp held m 60 (([v0, v1, v2, v3, v4].drop 2).take (Tryd.prog.cellsOf 60)) = [z0, z1, z2, z3, z4][2]? := hf 2 _ rfl
  have f3 : DataW.trod enc Tryd.prog W base sp held m 60 (([v0, v1, v2, v3, v4].drop 3).take (Tryd.prog.cellsOf 60)) = [z0, z1, z2, z3, z4][3]? := hf 3 _ rfl
  have f4 : DataW.trod enc Tryd.prog W base sp held m 60 (([v0, v1, v2, v3, v4].drop 4).take (Tryd.prog.cellsOf 60)) = [z0, z1, z2, z3, z4][4]? := hf 4 _ rfl
  simp only [cd_u64, List.drop_zero, List.take_succ_cons, List.take_zero, List.drop_succ_cons, List.getElem?_cons_zero, List.getElem?_cons_succ] at f0 f1 f2 f3 f4
  obtain ⟨a0, e0, -, w0⟩ := DataW.trod_int Tryd.underlying60 f0
  obtain ⟨a1, e1, -, w1⟩ := DataW.trod_int Tryd.underlying60 f1
  obtain ⟨a2, e2, -, w2⟩ := DataW.trod_int Tryd.underlying60 f2
  obtain ⟨a3, e3, -, w3⟩ := DataW.trod_int Tryd.underlying60 f3
  obtain ⟨a4, e4, -, w4⟩ := DataW.trod_int Tryd.underlying60 f4
  simp only [List.cons.injEq, and_true] at e0 e1 e2 e3 e4
  obtain ⟨k0, rfl, l0⟩ := nat_u64 w0
  obtain ⟨k1, rfl, l1⟩ := nat_u64 w1
  obtain ⟨k2, rfl, l2⟩ := nat_u64 w2
  obtain ⟨k3, rfl, l3⟩ := nat_u64 w3
  obtain ⟨k4, rfl, l4⟩ := nat_u64 w4
  exact ⟨⟨k0, k1, k2, k3, k4⟩, by rw [e0, e1, e2, e3, e4], ⟨l0, l1, l2, l3, l4⟩⟩
theorem one_i64 (fuel : Nat) (cs : List Value) (x : DataW H × List MemPlace) (hf : DataW.trod enc Tryd.prog W base sp held fuel 2 cs = some x) : ∃ a : Int, cs = [.int .i64 a] ∧ C64 a := by
  obtain ⟨a, e, -, w⟩ := DataW.trod_int Tryd.underlying2 hf
  exact ⟨a, e, in64 w⟩
theorem one_byte (fuel : Nat) (cs : List Value) (x : DataW H × List MemPlace) (hf : DataW.trod enc Tryd.prog W base sp held fuel 5 cs = some x) : ∃ a : UInt8, cs = [byc a] ∧ True := by
  obtain ⟨a, e, -, w⟩ := DataW.trod_int Tryd.underlying5 hf
  have hb := bounds_u8 w
  refine ⟨UInt8.ofNat a.toNat, ?_, trivial⟩
  rw [e]
  show [Value.int .u8 a] = [Value.int .u8 ((UInt8.ofNat a.toNat).toNat : Nat)]
  have h8 : a.toNat < 2 ^ 8 := by omega
  rw [UInt8.toNat_ofNat_of_lt' h8]
  congr 2
  omega
theorem one_ins (fuel : Nat) (cs : List Value) (x : DataW H × List MemPlace) (hf : DataW.trod enc Tryd.prog W base sp held fuel 51 cs = some x) : ∃ a : Ins, cs = inL a ∧ (C64 a.1 ∧ C64 a.2) := by
  obtain ⟨xs, m, rfl, hx1, hl, hlen, hf⟩ := DataW.trod_struct Tryd.underlying51 hf
  rw [cd_instr] at hl
  obtain ⟨v0, v1, rfl⟩ := list_two cs hl
  obtain ⟨z0, z1, rfl⟩ := list_two xs hlen
  have f0 : DataW.trod enc Tryd.prog W base sp held m 3 (([v0, v1].drop 0).take (Tryd.prog.cellsOf 3)) = [z0, z1][0]? := hf 0 _ rfl
  have f1 : DataW.trod enc Tryd.prog W base sp held m 2 (([v0, v1].drop 1).take (Tryd.prog.cellsOf 2)) = [z0, z1][1]? := hf 1 _ rfl
  simp only [ce_int, ce_int64, List.drop_zero, List.take_succ_cons, List.take_zero, List.drop_succ_cons, List.getElem?_cons_zero, List.getElem?_cons_succ] at f0 f1
  obtain ⟨a0, e0, -, w0⟩ := DataW.trod_int Tryd.underlying3 f0
  obtain ⟨a1, e1, -, w1⟩ := DataW.trod_int Tryd.underlying2 f1
  simp only [List.cons.injEq, and_true] at e0 e1
  exact ⟨(a0, a1), by rw [e0, e1], in64 w0, in64 w1⟩
theorem open_rules {fuel : Nat} {cs : List Value} {x : DataW H × List MemPlace} (hf : DataW.trod enc Tryd.prog W base sp held fuel 25 cs = some x) : ∃ r : RuP, cs = [.int .i64 r.mn, .int .i64 r.mx, .int .i64 r.st, .int .i64 r.up, .int .i64 r.dn] ∧ RuOk r := by
  obtain ⟨xs, m, rfl, hx1, hl, hlen, hf⟩ := DataW.trod_struct Tryd.underlying25 hf
  rw [cd_rules] at hl
  obtain ⟨v0, v1, v2, v3, v4, rfl⟩ := list_five cs hl
  obtain ⟨z0, z1, z2, z3, z4, rfl⟩ := list_five xs hlen
  have f0 : DataW.trod enc Tryd.prog W base sp held m 2 (([v0, v1, v2, v3, v4].drop 0).take (Tryd.prog.cellsOf 2)) = [z0, z1, z2, z3, z4][0]? := hf 0 _ rfl
  have f1 : DataW.trod enc Tryd.prog W base sp held m 2 (([v0, v1, v2, v3, v4].drop 1).take (Tryd.prog.cellsOf 2)) = [z0, z1, z2, z3, z4][1]? := hf 1 _ rfl
  have f2 : DataW.trod enc Tryd.prog W base sp held m 2 (([v0, v1, v2, v3, v4].drop 2).take (Tryd.prog.cellsOf 2)) = [z0, z1, z2, z3, z4][2]? := hf 2 _ rfl
  have f3 : DataW.trod enc Tryd.prog W base sp held m 2 (([v0, v1, v2, v3, v4].drop 3).take (Tryd.prog.cellsOf 2)) = [z0, z1, z2, z3, z4][3]? := hf 3 _ rfl
  have f4 : DataW.trod enc Tryd.prog W base sp held m 2 (([v0, v1, v2, v3, v4].drop 4).take (Tryd.prog.cellsOf 2)) = [z0, z1, z2, z3, z4][4]? := hf 4 _ rfl
  simp only [ce_int64, List.drop_zero, List.take_succ_cons, List.take_zero, List.drop_succ_cons, List.getElem?_cons_zero, List.getElem?_cons_succ] at f0 f1 f2 f3 f4
  obtain ⟨a0, e0, -, w0⟩ := DataW.trod_int Tryd.underlying2 f0
  obtain ⟨a1, e1, -, w1⟩ := DataW.trod_int Tryd.underlying2 f1
  obtain ⟨a2, e2, -, w2⟩ := DataW.trod_int Tryd.underlying2 f2
  obtain ⟨a3, e3, -, w3⟩ := DataW.trod_int Tryd.underlying2 f3
  obtain ⟨a4, e4, -, w4⟩ := DataW.trod_int Tryd.underlying2 f4
  simp only [List.cons.injEq, and_true] at e0 e1 e2 e3 e4
  exact ⟨⟨a0, a1, a2, a3, a4⟩, by rw [e0, e1, e2, e3, e4], ⟨in64 w0, in64 w1, in64 w2, in64 w3, in64 w4⟩⟩
/-- A program among the arguments. -/
theorem open_progarg {r : Reach} {b0 : Nat} {v : Value} {d : DataW H} {ps : List MemPlace} (hval : Value.okWide Tryd.prog W r b0 31 v) (hd : DataW.Trod enc Tryd.prog W base sp held 31 v d ps) : ∃ (p : PgP) (u : PgV), v = pgV p u ∧ PgRd W p u ∧ PgOk p := by
  simp only [Value.okWide, Tryd.underlying31] at hval
  obtain ⟨cs, rfl, _⟩ := hval
  obtain ⟨fuel, hf⟩ := hd
  obtain ⟨c⟩ := cs
  simp only [Value.cells] at hf
  obtain ⟨xs, m, rfl, hx1, hl, hlen, hf⟩ := DataW.trod_struct Tryd.underlying31 hf
  rw [cd_prog] at hl
  obtain ⟨v0, v1, v2, v3, v4, v5, v6, v7, v8, v9, va, vb, rfl⟩ := list_twelve c hl
  obtain ⟨z0, z1, z2, z3, z4, z5, z6, z7, rfl⟩ := list_eight xs hlen
  have f0 : DataW.trod enc Tryd.prog W base sp held m 3 (([v0, v1, v2, v3, v4, v5, v6, v7, v8, v9, va, vb].drop 0).take (Tryd.prog.cellsOf 3)) = [z0, z1, z2, z3, z4, z5, z6, z7][0]? := hf 0 _ rfl
  have f1 : DataW.trod enc Tryd.prog W base sp held m 25 (([v0, v1, v2, v3, v4, v5, v6, v7, v8, v9, va, vb].drop 1).take (Tryd.prog.cellsOf 25)) = [z0, z1, z2, z3, z4, z5, z6, z7][1]? := hf 1 _ rfl
  have f2 : DataW.trod enc Tryd.prog W base sp held m 26 (([v0, v1, v2, v3, v4, v5, v6, v7, v8, v9, va, vb].drop 6).take (Tryd.prog.cellsOf 26)) = [z0, z1, z2, z3, z4, z5, z6, z7][2]? := hf 2 _ rfl
  have f3 : DataW.trod enc Tryd.prog W base sp held m 27 (([v0, v1, v2, v3, v4, v5, v6, v7, v8, v9, va, vb].drop 7).take (Tryd.prog.cellsOf 27)) = [z0, z1, z2, z3, z4, z5, z6, z7][3]? := hf 3 _ rfl
  have f4 : DataW.trod enc Tryd.prog W base sp held m 28 (([v0, v1, v2, v3, v4, v5, v6, v7, v8, v9, va, vb].drop 8).take (Tryd.prog.cellsOf 28)) = [z0, z1, z2, z3, z4, z5, z6, z7][4]? := hf 4 _ rfl
  have f5 : DataW.trod enc Tryd.prog W base sp held m 3 (([v0, v1, v2, v3, v4, v5, v6, v7, v8, v9, va, vb].drop 9).take (Tryd.prog.cellsOf 3)) = [z0, z1, z2, z3, z4, z5, z6, z7][5]? := hf 5 _ rfl
  have f6 : DataW.trod enc Tryd.prog W base sp held m 3 (([v0, v1, v2, v3, v4, v5, v6, v7, v8, v9, va, vb].drop 10).take (Tryd.prog.cellsOf 3)) = [z0, z1, z2, z3, z4, z5, z6, z7][6]? := hf 6 _ rfl
  have f7 : DataW.trod enc Tryd.prog W base sp held m 29 (([v0, v1, v2, v3, v4, v5, v6, v7, v8, v9, va, vb].drop 11).take (Tryd.prog.cellsOf 29)) = [z0, z1, z2, z3, z4, z5, z6, z7][7]? := hf 7 _ rfl
  simp only [ce_int, cd_rules, cd_i64s, cd_wins, cd_crons, cd_instrs, List.drop_zero, List.take_succ_cons, List.take_zero, List.drop_succ_cons, List.getElem?_cons_zero, List.getElem?_cons_succ] at f0 f1 f2 f3 f4 f5 f6 f7
  obtain ⟨a0, e0, -, w0⟩ := DataW.trod_int Tryd.underlying3 f0
  obtain ⟨ru, e1, hru⟩ := open_rules f1
  obtain ⟨ks, hk, rk⟩ := open_rows (0 : Int) C64 ⟨by omega, by omega⟩ (fun a => [.int .i64 a]) 1 (by decide) Tryd.underlying26 ce_int64 (fun _ => rfl) (fun fuel cs x h => one_i64 fuel cs x h) f2
  obtain ⟨ws, hw, rw⟩ := open_rows wi0 WiOk ⟨⟨by decide, by decide⟩, ⟨by decide, by decide⟩, ⟨by decide, by decide⟩, ⟨by decide, by decide⟩⟩ (fun a => wiL a) 4 (by decide) Tryd.underlying27 cd_win (fun _ => rfl) (fun fuel cs x h => one_win fuel cs x h) f3
  obtain ⟨cr, hc, rc⟩ := open_rows cr0 Cr.Fits ⟨by decide, by decide, by decide, by decide, by decide⟩ (fun a => crL a) 5 (by decide) Tryd.underlying28 cd_cron (fun _ => rfl) (fun fuel cs x h => one_cron fuel cs x h) f4
  obtain ⟨a5, e5, -, w5⟩ := DataW.trod_int Tryd.underlying3 f5
  obtain ⟨a6, e6, -, w6⟩ := DataW.trod_int Tryd.underlying3 f6
  obtain ⟨is, hi, ri⟩ := open_rows in0 (fun a : Ins => C64 a.1 ∧ C64 a.2) ⟨⟨by decide, by decide⟩, ⟨by decide, by decide⟩⟩ (fun a => inL a) 2 (by decide) Tryd.underlying29 cd_instr (fun _ => rfl) (fun fuel cs x h => one_ins fuel cs x h) f7
  simp only [List.cons.injEq, and_true] at e0 e1 e5 e6
  obtain ⟨e10, e11, e12, e13, e14⟩ := e1
  refine ⟨⟨a0, ru, ks, ws, cr, a5, a6, is⟩, ⟨v6, v7, v8, vb⟩, ?_, ⟨rk, rw, rc, ri⟩, ⟨in64 w0, hru, hk, hw, hc, in64 w5, in64 w6, hi⟩⟩
  rw [e0, e10, e11, e12, e13, e14, e5, e6]
/-- Bytes among the arguments. -/
theorem open_bytesarg {r : Reach} {b0 : Nat} {v : Value} {d : DataW H} {ps : List MemPlace} (hval : Value.okWide Tryd.prog W r b0 22 v) (hd : DataW.Trod enc Tryd.prog W base sp held 22 v d ps) : ∃ l : List UInt8, ByAt W v l := by
  have hv1 : v.cells.toList = [v] := by
    cases v with
    | agg cs => simp only [Value.okWide, Cell.okWide, Tryd.underlying22] at hval; unfold Cell.ok at hval; simp [Tryd.underlying22] at hval
    | _ => rfl
  obtain ⟨fuel, hf⟩ := hd
  rw [hv1] at hf
  obtain ⟨l, -, hr⟩ := open_rows (0 : UInt8) (fun _ => True) trivial (fun a => [byc a]) 1 (by decide) Tryd.underlying22 cd_u8 (fun _ => rfl) (fun fuel cs x h => one_byte fuel cs x h) hf
  exact ⟨l, hr⟩
end
abbrev laid22T : List (String × DataW Unit) := [("capstan/codec.errCode", Rows.laid_capstan_codec_errCode)]
theorem tErr : (Tryd.prog.globals[0]?).map (·.type) = some 113 := by kernel_rfl
theorem gErr : Tryd.prog.globalNamed "capstan/codec.errCode" = some 0 := by kernel_rfl
theorem nErr : (List.range Tryd.prog.types.size).all (fun u => Tryd.prog.typeName? 3 u != some "*errors.errorString" || u == 138) = true := by kernel_rfl
theorem err_of_laid {W : World} (hh : laidMetH Tryd.prog laid22T W) : ErrG W := by
  rw [MakeChecks.laidMetH_plain _ _ _ (by kernel_rfl)] at hh
  obtain ⟨g', t', cs, fuel, p, hg', ht', hvar, hd⟩ := Lib.laidMet.reads hh (n := "capstan/codec.errCode") (d := Rows.laid_capstan_codec_errCode) (by simp)
  obtain rfl := Option.some.inj (gErr.symm.trans hg')
  obtain rfl := Option.some.inj (tErr.symm.trans ht')
  have hcell := fun i => World.var?_cell hg' hvar i
  cases fuel with
  | zero => cases hd
  | succ f =>
    unfold DataW.trod at hd
    rw [Tryd.underlying113] at hd
    have h0 := hcell 0
    rw [← Array.getElem?_toList] at h0
    generalize cs.toList = l at hd h0
    split at hd <;> first
      | (simp only [Option.some.injEq, Prod.mk.injEq, reduceCtorEq] at hd; done)
      | (exact ⟨_, _, h0⟩)
      | (rename_i heq; simp at heq; done)
      | (unfold Rows.laid_capstan_codec_errCode at hd; simp at hd; done)
theorem laid22_met (os : Os) (args : Array Value) : laidMetH Tryd.prog laid22T ((World.laidAll Tryd.prog os laid22T).forCall (fun _ _ => 0) ⟨#[], args, []⟩).memory := by
  rw [MakeChecks.laidMetH_plain _ _ _ (by kernel_rfl)]
  exact laidMet_laidAll _ (by kernel_rfl) (by kernel_rfl)
theorem witness_laid {H : Type} {enc : TypeId × Value → H} {C : Checked} {os : Os} {f : FuncId} {fn : Func} {s : OpenSpec} {conds : List PathCond} {apart : Bool} {laid : List (String × DataW Unit)} (w0 : World) (args : Array Value) (hos : w0.os = os)
    (hsh : (w0.forCall (fun _ _ => 0) ⟨#[], args, []⟩).Shaped C.prog)
    (hok : Input.okWideB C.prog (w0.forCall (fun _ _ => 0) ⟨#[], args, []⟩) f ⟨#[], args, []⟩ = true)
    (hrow : s.preRow enc C.prog fn conds apart laid (w0.forCall (fun _ _ => 0) ⟨#[], args, []⟩).memory args) :
    ∃ (w : World) (tape : Tape) (i : Input), w.os = os ∧ (w.forCall tape i).Shaped C.prog ∧ i.vars = [] ∧ Input.okWide C.prog (w.forCall tape i) .any w.heap.size f i ∧
      s.preRow enc C.prog fn conds apart laid (w.forCall tape i).memory i.args ∧ ({} : Assume).holds C.prog (lone (Frame.enter C.prog f i.args .normal) [] (w.forCall tape i)) :=
  ⟨w0, fun _ _ => 0, ⟨#[], args, []⟩, hos, hsh, (Input.okWide_of_okWideB (base := 0) hok).1, (Input.okWide_of_okWideB hok).2, hrow, by
    simp only [Assume.holds]
    exact ⟨by simp, by simp, fun _ => Modest.zero, by simp, by simp⟩⟩
end Go.Proofs.YthfnjlfhaibbeaaDoor

/- The arguments of layer 8's statements, laid open: structs of numbers, and slices of such. -/
import Derived.Test.YtccgbkafcbfcgaaWnM
import Derived.OpenShut
import Derived.Deep.SlicePairs
import Derived.ChangeSlices
namespace Go.Proofs.Ytccgbkafcbfcgaa
open Go.ChangeShapes Go.WideShapes Go.RowKit Go.Deep

theorem in64 {n : Int} (h : (Lit.int .i64 n).wf = true) : In64 n := by have := bounds_i64 h; exact ⟨by omega, by omega⟩
section
variable {H : Type} {enc : TypeId × Value → H} {W : World} {base : Nat} {sp : Nat → Bool} {held : Bool}
theorem ce_int64 : Try.prog.cellsOf 2 = 1 := by kernel_rfl
theorem ce_int : Try.prog.cellsOf 3 = 1 := by kernel_rfl
theorem ce_uint16 : Try.prog.cellsOf 41 = 1 := by kernel_rfl
theorem ce_samp : Try.prog.cellsOf 45 = 2 := by kernel_rfl
theorem list_samp {α : Type} : ∀ (c : List α), c.length = 2 → ∃ v0 v1, c = [v0, v1]
  | [v0, v1], _ => ⟨v0, v1, rfl⟩
set_option maxRecDepth 10000 in
theorem cells_samp {fuel : Nat} {cs : List Value} {x : DataW H × List MemPlace} (hf : DataW.trod enc Try.prog W base sp held fuel 45 cs = some x) : ∃ a0 a1 : Int, cs = [.int .i64 a0, .int .i64 a1] ∧ In64 a0 ∧ In64 a1 := by
  obtain ⟨xs, m, rfl, hx1, hl, hlen, hf⟩ := DataW.trod_struct Try.underlying45 hf
  rw [ce_samp] at hl
  obtain ⟨v0, v1, rfl⟩ := list_samp cs hl
  obtain ⟨z0, z1, rfl⟩ := list_samp xs hlen
  have f0 : DataW.trod enc Try.prog W base sp held m 2 (([v0, v1].drop 0).take (Try.prog.cellsOf 2)) = [z0, z1][0]? := hf 0 _ rfl
  have f1 : DataW.trod enc Try.prog W base sp held m 2 (([v0, v1].drop 1).take (Try.prog.cellsOf 2)) = [z0, z1][1]? := hf 1 _ rfl
  simp only [ce_int64, List.drop_zero, List.take_succ_cons, List.take_zero, List.drop_succ_cons, List.getElem?_cons_zero, List.getElem?_cons_succ] at f0 f1
  obtain ⟨a0, e0, -, w0⟩ := DataW.trod_int Try.underlying2 f0
  obtain ⟨a1, e1, -, w1⟩ := DataW.trod_int Try.underlying2 f1
  simp only [List.cons.injEq, and_true] at e0 e1
  exact ⟨a0, a1, by rw [e0, e1], in64 w0, in64 w1⟩
set_option maxRecDepth 10000 in
theorem open_samp {r : Reach} {b0 : Nat} {v : Value} {d : DataW H} {ps : List MemPlace} (hval : Value.okWide Try.prog W r b0 45 v) (hd : DataW.Trod enc Try.prog W base sp held 45 v d ps) : ∃ a0 a1 : Int, v = .agg #[.int .i64 a0, .int .i64 a1] ∧ In64 a0 ∧ In64 a1 := by
  simp only [Value.okWide, Try.underlying45] at hval
  obtain ⟨cs, rfl, _⟩ := hval
  obtain ⟨fuel, hf⟩ := hd
  obtain ⟨c⟩ := cs
  simp only [Value.cells] at hf
  obtain ⟨a0, a1, rfl, h⟩ := cells_samp hf
  exact ⟨a0, a1, rfl, h⟩
theorem ce_wint : Try.prog.cellsOf 23 = 4 := by kernel_rfl
theorem list_wint {α : Type} : ∀ (c : List α), c.length = 4 → ∃ v0 v1 v2 v3, c = [v0, v1, v2, v3]
  | [v0, v1, v2, v3], _ => ⟨v0, v1, v2, v3, rfl⟩
set_option maxRecDepth 10000 in
theorem cells_wint {fuel : Nat} {cs : List Value} {x : DataW H × List MemPlace} (hf : DataW.trod enc Try.prog W base sp held fuel 23 cs = some x) : ∃ a0 a1 a2 a3 : Int, cs = [.int .i64 a0, .int .i64 a1, .int .i64 a2, .int .i64 a3] ∧ In64 a0 ∧ In64 a1 ∧ In64 a2 ∧ In64 a3 := by
  obtain ⟨xs, m, rfl, hx1, hl, hlen, hf⟩ := DataW.trod_struct Try.underlying23 hf
  rw [ce_wint] at hl
  obtain ⟨v0, v1, v2, v3, rfl⟩ := list_wint cs hl
  obtain ⟨z0, z1, z2, z3, rfl⟩ := list_wint xs hlen
  have f0 : DataW.trod enc Try.prog W base sp held m 3 (([v0, v1, v2, v3].drop 0).take (Try.prog.cellsOf 3)) = [z0, z1, z2, z3][0]? := hf 0 _ rfl
  have f1 : DataW.trod enc Try.prog W base sp held m 3 (([v0, v1, v2, v3].drop 1).take (Try.prog.cellsOf 3)) = [z0, z1, z2, z3][1]? := hf 1 _ rfl
  have f2 : DataW.trod enc Try.prog W base sp held m 2 (([v0, v1, v2, v3].drop 2).take (Try.prog.cellsOf 2)) = [z0, z1, z2, z3][2]? := hf 2 _ rfl
  have f3 : DataW.trod enc Try.prog W base sp held m 2 (([v0, v1, v2, v3].drop 3).take (Try.prog.cellsOf 2)) = [z0, z1, z2, z3][3]? := hf 3 _ rfl
  simp only [ce_int, ce_int64, List.drop_zero, List.take_succ_cons, List.take_zero, List.drop_succ_cons, List.getElem?_cons_zero, List.getElem?_cons_succ] at f0 f1 f2 f3
  obtain ⟨a0, e0, -, w0⟩ := DataW.trod_int Try.underlying3 f0
  obtain ⟨a1, e1, -, w1⟩ := DataW.trod_int Try.underlying3 f1
  obtain ⟨a2, e2, -, w2⟩ := DataW.trod_int Try.underlying2 f2
  obtain ⟨a3, e3, -, w3⟩ := DataW.trod_int Try.underlying2 f3
  simp only [List.cons.injEq, and_true] at e0 e1 e2 e3
  exact ⟨a0, a1, a2, a3, by rw [e0, e1, e2, e3], in64 w0, in64 w1, in64 w2, in64 w3⟩
set_option maxRecDepth 10000 in
theorem open_wint {r : Reach} {b0 : Nat} {v : Value} {d : DataW H} {ps : List MemPlace} (hval : Value.okWide Try.prog W r b0 23 v) (hd : DataW.Trod enc Try.prog W base sp held 23 v d ps) : ∃ a0 a1 a2 a3 : Int, v = .agg #[.int .i64 a0, .int .i64 a1, .int .i64 a2, .int .i64 a3] ∧ In64 a0 ∧ In64 a1 ∧ In64 a2 ∧ In64 a3 := by
  simp only [Value.okWide, Try.underlying23] at hval
  obtain ⟨cs, rfl, _⟩ := hval
  obtain ⟨fuel, hf⟩ := hd
  obtain ⟨c⟩ := cs
  simp only [Value.cells] at hf
  obtain ⟨a0, a1, a2, a3, rfl, h⟩ := cells_wint hf
  exact ⟨a0, a1, a2, a3, rfl, h⟩
theorem ce_op3 : Try.prog.cellsOf 37 = 3 := by kernel_rfl
theorem list_op3 {α : Type} : ∀ (c : List α), c.length = 3 → ∃ v0 v1 v2, c = [v0, v1, v2]
  | [v0, v1, v2], _ => ⟨v0, v1, v2, rfl⟩
set_option maxRecDepth 10000 in
theorem cells_op3 {fuel : Nat} {cs : List Value} {x : DataW H × List MemPlace} (hf : DataW.trod enc Try.prog W base sp held fuel 37 cs = some x) : ∃ a0 a1 a2 : Int, cs = [.int .i64 a0, .int .i64 a1, .int .i64 a2] ∧ In64 a0 ∧ In64 a1 ∧ In64 a2 := by
  obtain ⟨xs, m, rfl, hx1, hl, hlen, hf⟩ := DataW.trod_struct Try.underlying37 hf
  rw [ce_op3] at hl
  obtain ⟨v0, v1, v2, rfl⟩ := list_op3 cs hl
  obtain ⟨z0, z1, z2, rfl⟩ := list_op3 xs hlen
  have f0 : DataW.trod enc Try.prog W base sp held m 3 (([v0, v1, v2].drop 0).take (Try.prog.cellsOf 3)) = [z0, z1, z2][0]? := hf 0 _ rfl
  have f1 : DataW.trod enc Try.prog W base sp held m 2 (([v0, v1, v2].drop 1).take (Try.prog.cellsOf 2)) = [z0, z1, z2][1]? := hf 1 _ rfl
  have f2 : DataW.trod enc Try.prog W base sp held m 2 (([v0, v1, v2].drop 2).take (Try.prog.cellsOf 2)) = [z0, z1, z2][2]? := hf 2 _ rfl
  simp only [ce_int, ce_int64, List.drop_zero, List.take_succ_cons, List.take_zero, List.drop_succ_cons, List.getElem?_cons_zero, List.getElem?_cons_succ] at f0 f1 f2
  obtain ⟨a0, e0, -, w0⟩ := DataW.trod_int Try.underlying3 f0
  obtain ⟨a1, e1, -, w1⟩ := DataW.trod_int Try.underlying2 f1
  obtain ⟨a2, e2, -, w2⟩ := DataW.trod_int Try.underlying2 f2
  simp only [List.cons.injEq, and_true] at e0 e1 e2
  exact ⟨a0, a1, a2, by rw [e0, e1, e2], in64 w0, in64 w1, in64 w2⟩
theorem ce_flood : Try.prog.cellsOf 43 = 7 := by kernel_rfl
theorem list_flood {α : Type} : ∀ (c : List α), c.length = 7 → ∃ v0 v1 v2 v3 v4 v5 v6, c = [v0, v1, v2, v3, v4, v5, v6]
  | [v0, v1, v2, v3, v4, v5, v6], _ => ⟨v0, v1, v2, v3, v4, v5, v6, rfl⟩
set_option maxRecDepth 10000 in
theorem cells_flood {fuel : Nat} {cs : List Value} {x : DataW H × List MemPlace} (hf : DataW.trod enc Try.prog W base sp held fuel 43 cs = some x) : ∃ a0 a1 a2 a3 a4 a5 a6 : Int, cs = [.int .u16 a0, .int .i64 a1, .int .i64 a2, .int .i64 a3, .int .i64 a4, .int .i64 a5, .int .i64 a6] ∧ (0 ≤ a0 ∧ a0 ≤ 65535) ∧ In64 a1 ∧ In64 a2 ∧ In64 a3 ∧ In64 a4 ∧ In64 a5 ∧ In64 a6 := by
  obtain ⟨xs, m, rfl, hx1, hl, hlen, hf⟩ := DataW.trod_struct Try.underlying43 hf
  rw [ce_flood] at hl
  obtain ⟨v0, v1, v2, v3, v4, v5, v6, rfl⟩ := list_flood cs hl
  obtain ⟨z0, z1, z2, z3, z4, z5, z6, rfl⟩ := list_flood xs hlen
  have f0 : DataW.trod enc Try.prog W base sp held m 41 (([v0, v1, v2, v3, v4, v5, v6].drop 0).take (Try.prog.cellsOf 41)) = [z0, z1, z2, z3, z4, z5, z6][0]? := hf 0 _ rfl
  have f1 : DataW.trod enc Try.prog W base sp held m 3 (([v0, v1, v2, v3, v4, v5, v6].drop 1).take (Try.prog.cellsOf 3)) = [z0, z1, z2, z3, z4, z5, z6][1]? := hf 1 _ rfl
  have f2 : DataW.trod enc Try.prog W base sp held m 2 (([v0, v1, v2, v3, v4, v5, v6].drop 2).take (Try.prog.cellsOf 2)) = [z0, z1, z2, z3, z4, z5, z6][2]? := hf 2 _ rfl
  have f3 : DataW.trod enc Try.prog W base sp held m 2 (([v0, v1, v2, v3, v4, v5, v6].drop 3).take (Try.prog.cellsOf 2)) = [z0, z1, z2, z3, z4, z5, z6][3]? := hf 3 _ rfl
  have f4 : DataW.trod enc Try.prog W base sp held m 2 (([v0, v1, v2, v3, v4, v5, v6].drop 4).take (Try.prog.cellsOf 2)) = [z0, z1, z2, z3, z4, z5, z6][4]? := hf 4 _ rfl
  have f5 : DataW.trod enc Try.prog W base sp held m 2 (([v0, v1, v2, v3, v4, v5, v6].drop 5).take (Try.prog.cellsOf 2)) = [z0, z1, z2, z3, z4, z5, z6][5]? := hf 5 _ rfl
  have f6 : DataW.trod enc Try.prog W base sp held m 2 (([v0, v1, v2, v3, v4, v5, v6].drop 6).take (Try.prog.cellsOf 2)) = [z0, z1, z2, z3, z4, z5, z6][6]? := hf 6 _ rfl
  simp only [ce_int, ce_int64, ce_uint16, List.drop_zero, List.take_succ_cons, List.take_zero, List.drop_succ_cons, List.getElem?_cons_zero, List.getElem?_cons_succ] at f0 f1 f2 f3 f4 f5 f6
  obtain ⟨a0, e0, -, w0⟩ := DataW.trod_int Try.underlying41 f0
  obtain ⟨a1, e1, -, w1⟩ := DataW.trod_int Try.underlying3 f1
  obtain ⟨a2, e2, -, w2⟩ := DataW.trod_int Try.underlying2 f2
  obtain ⟨a3, e3, -, w3⟩ := DataW.trod_int Try.underlying2 f3
  obtain ⟨a4, e4, -, w4⟩ := DataW.trod_int Try.underlying2 f4
  obtain ⟨a5, e5, -, w5⟩ := DataW.trod_int Try.underlying2 f5
  obtain ⟨a6, e6, -, w6⟩ := DataW.trod_int Try.underlying2 f6
  simp only [List.cons.injEq, and_true] at e0 e1 e2 e3 e4 e5 e6
  exact ⟨a0, a1, a2, a3, a4, a5, a6, by rw [e0, e1, e2, e3, e4, e5, e6], bounds_u16 w0, in64 w1, in64 w2, in64 w3, in64 w4, in64 w5, in64 w6⟩
set_option maxRecDepth 10000 in
theorem open_flood {r : Reach} {b0 : Nat} {v : Value} {d : DataW H} {ps : List MemPlace} (hval : Value.okWide Try.prog W r b0 43 v) (hd : DataW.Trod enc Try.prog W base sp held 43 v d ps) : ∃ a0 a1 a2 a3 a4 a5 a6 : Int, v = .agg #[.int .u16 a0, .int .i64 a1, .int .i64 a2, .int .i64 a3, .int .i64 a4, .int .i64 a5, .int .i64 a6] ∧ (0 ≤ a0 ∧ a0 ≤ 65535) ∧ In64 a1 ∧ In64 a2 ∧ In64 a3 ∧ In64 a4 ∧ In64 a5 ∧ In64 a6 := by
  simp only [Value.okWide, Try.underlying43] at hval
  obtain ⟨cs, rfl, _⟩ := hval
  obtain ⟨fuel, hf⟩ := hd
  obtain ⟨c⟩ := cs
  simp only [Value.cells] at hf
  obtain ⟨a0, a1, a2, a3, a4, a5, a6, rfl, h⟩ := cells_flood hf
  exact ⟨a0, a1, a2, a3, a4, a5, a6, rfl, h⟩
/-- The slice at a holds len samples. -/
def IsSam (w : World) (a : Option Addr) (len : Nat) (S : Nat → Pr) : Prop := len = 0 ∨ ∃ b off, a = some ⟨b, off, none⟩ ∧ b < w.heap.size ∧ ∀ i, i < len → w.cell? ⟨b, off + i * 2, none⟩ = some (.int .i64 (S i).1) ∧ w.cell? ⟨b, off + i * 2 + 1, none⟩ = some (.int .i64 (S i).2) ∧ In64 (S i).1 ∧ In64 (S i).2
/-- The slice at a holds len calls: a kind, and a sample. -/
def IsOps (w : World) (a : Option Addr) (len : Nat) (K : Nat → Int) (S : Nat → Pr) : Prop := len = 0 ∨ ∃ b off, a = some ⟨b, off, none⟩ ∧ b < w.heap.size ∧ ∀ i, i < len → w.cell? ⟨b, off + i * 3, none⟩ = some (.int .i64 (K i)) ∧ w.cell? ⟨b, off + i * 3 + 1, none⟩ = some (.int .i64 (S i).1) ∧ w.cell? ⟨b, off + i * 3 + 2, none⟩ = some (.int .i64 (S i).2) ∧ In64 (S i).1 ∧ In64 (S i).2
theorem cells_at {w : World} {base b off k n : Nat} {cs : List Value} (h : w.cells? base ((⟨b, off, none⟩ : Addr).add k) n = some cs) : ∀ j, j < n → w.cell? ⟨b, off + k + j, none⟩ = cs[j]? := by
  intro j hj
  have := (World.cells?_some h).2.2 j hj
  rwa [add_add, add_plain, ← Nat.add_assoc] at this
theorem cells_first {w : World} {base b off n : Nat} {spot : Option Nat} {cs : List Value} (h : w.cells? base ((⟨b, off, spot⟩ : Addr).add 0) n = some cs) (hn : 0 < n) : spot = none ∧ b < w.heap.size := by
  obtain ⟨_, hl, hc⟩ := World.cells?_some h
  have h0 := hc 0 hn
  have h1 : w.cell? ⟨b, off, spot⟩ = some cs[0] := by rw [← List.getElem?_eq_getElem (by omega)]; simpa [Addr.add] using h0
  exact ⟨by simpa using World.cell?_spot h1, World.block_lt_of_cell? w _ h1⟩
set_option maxRecDepth 10000 in
theorem open_sams {a : Option Addr} {len cap : Nat} {d : DataW H} {ps : List MemPlace} (h : DataW.Trod enc Try.prog W base sp held 32 (.slice a len cap) d ps) : ∃ S, IsSam W a len S ∧ len ≤ cap ∧ (len = 0 ∨ ∃ e s, d = .slice e s ∧ e.length = len) := by
  obtain ⟨fuel, hf⟩ := h
  rcases open_slice Try.underlying32 hf with ⟨hcs, _⟩ | ⟨x, l, c, m, n, D, Pl, hcs, _, hl, hm, hmm, hx, hcell⟩
  · simp [Value.cells] at hcs
    obtain ⟨rfl, rfl, rfl⟩ := hcs
    exact ⟨fun _ => (0, 0), .inl rfl, Nat.le_refl _, .inl rfl⟩
  · simp [Value.cells] at hcs
    obtain ⟨rfl, rfl, rfl⟩ := hcs
    have hd := (Prod.mk.inj hx).1
    have hlen : len = 0 ∨ ∃ e s, d = .slice e s ∧ e.length = len := .inr ⟨_, _, hd, by simp⟩
    by_cases hz : len = 0
    · exact ⟨fun _ => (0, 0), .inl hz, hl, hlen⟩
    have hmc : len ≤ m := by rw [hmm]; split <;> omega
    rw [ce_samp] at hcell
    obtain ⟨b, off, spot⟩ := x
    obtain ⟨rfl, hb⟩ : spot = none ∧ b < W.heap.size := by
      obtain ⟨cs, h1, _⟩ := hcell 0 (by omega)
      exact cells_first (by simpa using h1) (by decide)
    have each : ∀ i, ∃ s : Pr, i < len → W.cell? ⟨b, off + i * 2, none⟩ = some (.int .i64 s.1) ∧ W.cell? ⟨b, off + i * 2 + 1, none⟩ = some (.int .i64 s.2) ∧ In64 s.1 ∧ In64 s.2 := by
      intro i
      by_cases hi : i < len
      · obtain ⟨cs, h1, h2⟩ := hcell i (by omega)
        obtain ⟨a0, a1, rfl, i0, i1⟩ := cells_samp h2
        have hc := cells_at h1
        exact ⟨(a0, a1), fun _ => ⟨by simpa using hc 0 (by decide), by simpa using hc 1 (by decide), i0, i1⟩⟩
      · exact ⟨(0, 0), fun h => absurd h hi⟩
    exact ⟨fun i => (each i).choose, .inr ⟨b, off, rfl, hb, fun i hi => (each i).choose_spec hi⟩, hl, hlen⟩
set_option maxRecDepth 10000 in
theorem open_ops {a : Option Addr} {len cap : Nat} {d : DataW H} {ps : List MemPlace} (h : DataW.Trod enc Try.prog W base sp held 24 (.slice a len cap) d ps) : ∃ K S, IsOps W a len K S ∧ len ≤ cap ∧ (len = 0 ∨ ∃ e s, d = .slice e s ∧ e.length = len) := by
  obtain ⟨fuel, hf⟩ := h
  rcases open_slice Try.underlying24 hf with ⟨hcs, _⟩ | ⟨x, l, c, m, n, D, Pl, hcs, _, hl, hm, hmm, hx, hcell⟩
  · simp [Value.cells] at hcs
    obtain ⟨rfl, rfl, rfl⟩ := hcs
    exact ⟨fun _ => 0, fun _ => (0, 0), .inl rfl, Nat.le_refl _, .inl rfl⟩
  · simp [Value.cells] at hcs
    obtain ⟨rfl, rfl, rfl⟩ := hcs
    have hd := (Prod.mk.inj hx).1
    have hlen : len = 0 ∨ ∃ e s, d = .slice e s ∧ e.length = len := .inr ⟨_, _, hd, by simp⟩
    by_cases hz : len = 0
    · exact ⟨fun _ => 0, fun _ => (0, 0), .inl hz, hl, hlen⟩
    have hmc : len ≤ m := by rw [hmm]; split <;> omega
    rw [ce_op3] at hcell
    obtain ⟨b, off, spot⟩ := x
    obtain ⟨rfl, hb⟩ : spot = none ∧ b < W.heap.size := by
      obtain ⟨cs, h1, _⟩ := hcell 0 (by omega)
      exact cells_first (by simpa using h1) (by decide)
    have each : ∀ i, ∃ t : Int × Pr, i < len → W.cell? ⟨b, off + i * 3, none⟩ = some (.int .i64 t.1) ∧ W.cell? ⟨b, off + i * 3 + 1, none⟩ = some (.int .i64 t.2.1) ∧ W.cell? ⟨b, off + i * 3 + 2, none⟩ = some (.int .i64 t.2.2) ∧ In64 t.2.1 ∧ In64 t.2.2 := by
      intro i
      by_cases hi : i < len
      · obtain ⟨cs, h1, h2⟩ := hcell i (by omega)
        obtain ⟨a0, a1, a2, rfl, i0, i1, i2⟩ := cells_op3 h2
        have hc := cells_at h1
        exact ⟨(a0, a1, a2), fun _ => ⟨by simpa using hc 0 (by decide), by simpa using hc 1 (by decide), by simpa using hc 2 (by decide), i1, i2⟩⟩
      · exact ⟨(0, 0, 0), fun h => absurd h hi⟩
    exact ⟨fun i => (each i).choose.1, fun i => (each i).choose.2, .inr ⟨b, off, rfl, hb, fun i hi => (each i).choose_spec hi⟩, hl, hlen⟩
end
end Go.Proofs.Ytccgbkafcbfcgaa

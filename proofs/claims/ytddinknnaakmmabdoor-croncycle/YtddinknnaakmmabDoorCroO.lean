/- From what the program's text lays to what the walks ask, and a schedule as an argument: from what is read to the numbers, and back. -/
import Derived.Test.YtddinknnaakmmabDoorRows
import Derived.Test.YtddinknnaakmmabDoorCroG
import Derived.Lib.LaidTab
import Derived.OpenShut
import Derived.Stop.LaidErr
import Derived.MakeChecks
import Derived.ChangeSame
import Derived.WalkKit
import Derived.ProofKit
import Derived.LaidMore
namespace Go.Proofs.YtddinknnaakmmabDoor
open Go.RowKit Go.ChangeShapes Go.WideShapes

theorem cInt : Tryd.prog.cellsOf 3 = 1 := by kernel_rfl
theorem cByte : Tryd.prog.cellsOf 5 = 1 := by kernel_rfl
theorem cU64 : Tryd.prog.cellsOf 22 = 1 := by kernel_rfl
theorem cFld : Tryd.prog.cellsOf 41 = 2 := by kernel_rfl
theorem cFlds : Tryd.prog.cellsOf 42 = 10 := by kernel_rfl
theorem cTab : Tryd.prog.cellsOf 81 = 64 := by kernel_rfl
theorem cCron : Tryd.prog.cellsOf 24 = 5 := by kernel_rfl
theorem cLens : Tryd.prog.cellsOf 79 = 12 := by kernel_rfl
theorem lens_rows : (Rows.laid_capstan_civil_lengths : DataW Unit) = Lib.tabData .i64 lens := by kernel_rfl
theorem gLens : Tryd.prog.globalNamed "capstan/civil.lengths" = some 1 := by kernel_rfl
theorem tLens : (Tryd.prog.globals[1]?).map (·.type) = some 79 := by kernel_rfl
theorem len_of_head {W : World} {rest : List (String × DataW Unit)} (h : laidMet Tryd.prog (("capstan/civil.lengths", Rows.laid_capstan_civil_lengths) :: rest) W) : LenAt W := by
  obtain ⟨ps, ⟨g', t', cs, fuel, p, q, hg', ht', hvar, hd, _, _⟩, _⟩ := h
  obtain rfl := Option.some.inj (gLens.symm.trans hg')
  obtain rfl := Option.some.inj (tLens.symm.trans ht')
  rw [lens_rows] at hd
  have hc := Lib.cells_of_tab Tryd.underlying79 Tryd.underlying3 cInt cLens hd
  have hc : cs.toList = lenCells := hc
  have hcell := fun i => World.var?_cell hg' hvar i
  refine ⟨fun j v hv => ?_, ?_⟩
  · rw [Nat.zero_add, hcell j, ← Array.getElem?_toList, hc]
    exact hv
  · have h0 : W.cell? ⟨1, 0, none⟩ = some (.int .i64 31) := by rw [hcell 0, ← Array.getElem?_toList, hc]; rfl
    exact World.block_lt_of_cell? _ _ h0
theorem tz_rows : (Rows.laid_math_bits_deBruijn64tab : DataW Unit) = Lib.tabData .u8 (Lib.deBruijn64tab.map Int.ofNat) := by kernel_rfl
theorem gTz : Tryd.prog.globalNamed "math/bits.deBruijn64tab" = some 2 := by kernel_rfl
theorem tTz : (Tryd.prog.globals[2]?).map (·.type) = some 81 := by kernel_rfl
theorem tz_of_head {W : World} {rest : List (String × DataW Unit)} (h : laidMet Tryd.prog (("math/bits.deBruijn64tab", Rows.laid_math_bits_deBruijn64tab) :: rest) W) : TzAt W := by
  obtain ⟨ps, ⟨g', t', cs, fuel, p, q, hg', ht', hvar, hd, _, _⟩, _⟩ := h
  obtain rfl := Option.some.inj (gTz.symm.trans hg')
  obtain rfl := Option.some.inj (tTz.symm.trans ht')
  rw [tz_rows] at hd
  have hc := Lib.cells_of_tab Tryd.underlying81 Tryd.underlying5 cByte cTab hd
  have hcell := fun i => World.var?_cell hg' hvar i
  refine ⟨fun j hj => ?_, ?_⟩
  · rw [hcell j, ← Array.getElem?_toList, hc, List.getElem?_map, List.getElem?_map, List.getElem?_eq_getElem hj, List.getD_eq_getElem?_getD, List.getElem?_eq_getElem hj]
    rfl
  · have h0 : W.cell? ⟨2, 0, none⟩ = some (.int .u8 0) := by rw [hcell 0, ← Array.getElem?_toList, hc]; rfl
    exact World.block_lt_of_cell? _ _ h0
theorem list5 {α : Type} : ∀ (c : List α), c.length = 5 → ∃ v0 v1 v2 v3 v4, c = [v0, v1, v2, v3, v4]
  | [v0, v1, v2, v3, v4], _ => ⟨v0, v1, v2, v3, v4, rfl⟩
theorem list10 {α : Type} : ∀ (c : List α), c.length = 10 → ∃ v0 v1 v2 v3 v4 v5 v6 v7 v8 v9, c = [v0, v1, v2, v3, v4, v5, v6, v7, v8, v9]
  | [v0, v1, v2, v3, v4, v5, v6, v7, v8, v9], _ => ⟨v0, v1, v2, v3, v4, v5, v6, v7, v8, v9, rfl⟩
section
variable {H : Type} {enc : TypeId × Value → H} {W : World} {base : Nat} {sp : Nat → Bool} {held : Bool}
theorem fld_cells {fuel : Nat} {v0 v1 : Value} {a b : Int} {q : List MemPlace} (h : DataW.trod enc Tryd.prog W base sp held fuel 41 [v0, v1] = some (.agg [.lit (.int .i64 a), .lit (.int .i64 b)], q)) : v0 = .int .i64 a ∧ v1 = .int .i64 b := by
  obtain ⟨y0, y1, n, hx, hl, h0, h1⟩ := trod_struct2 Tryd.underlying41 h
  have f0 : DataW.trod enc Tryd.prog W base sp held n 3 (([v0, v1].drop 0).take (Tryd.prog.cellsOf 3)) = some y0 := h0
  have f1 : DataW.trod enc Tryd.prog W base sp held n 3 (([v0, v1].drop 1).take (Tryd.prog.cellsOf 3)) = some y1 := h1
  simp only [cInt, List.drop_zero, List.take_succ_cons, List.take_zero, List.drop_succ_cons] at f0 f1
  obtain ⟨a0, e0, rfl, w0⟩ := DataW.trod_int Tryd.underlying3 f0
  obtain ⟨a1, e1, rfl, w1⟩ := DataW.trod_int Tryd.underlying3 f1
  simp only [List.cons.injEq, and_true] at e0 e1
  simp only [Prod.mk.injEq, DataW.agg.injEq, List.cons.injEq, DataW.lit.injEq, Lit.int.injEq, and_true, true_and] at hx
  obtain ⟨⟨rfl, rfl⟩, _⟩ := hx
  exact ⟨e0, e1⟩
end
theorem gFld : Tryd.prog.globalNamed "capstan/cron.fields" = some 0 := by kernel_rfl
theorem tFld : (Tryd.prog.globals[0]?).map (·.type) = some 42 := by kernel_rfl
set_option maxRecDepth 10000 in
theorem fld_of_head {W : World} {rest : List (String × DataW Unit)} (h : laidMet Tryd.prog (("capstan/cron.fields", Rows.laid_capstan_cron_fields) :: rest) W) : FldAt W := by
  obtain ⟨ps, ⟨g', t', cs, fuel, p, q, hg', ht', hvar, hd, _, _⟩, _⟩ := h
  obtain rfl := Option.some.inj (gFld.symm.trans hg')
  obtain rfl := Option.some.inj (tFld.symm.trans ht')
  obtain ⟨xs, m, rfl, hx, hl, hlen, hel⟩ := DataW.trod_array Tryd.underlying42 hd
  rw [cFlds] at hl
  have hc : cs.toList = fldCells := by
    generalize cs.toList = c at *
    obtain ⟨v0, v1, v2, v3, v4, v5, v6, v7, v8, v9, rfl⟩ := list10 c hl
    obtain ⟨z0, z1, z2, z3, z4, rfl⟩ := list5 xs hlen
    have f0 := hel 0 (by decide)
    have f1 := hel 1 (by decide)
    have f2 := hel 2 (by decide)
    have f3 := hel 3 (by decide)
    have f4 := hel 4 (by decide)
    simp only [cFld, Nat.zero_mul, Nat.one_mul, Nat.reduceMul, List.drop_zero, List.take_succ_cons, List.take_zero, List.drop_succ_cons, List.getElem?_cons_zero, List.getElem?_cons_succ] at f0 f1 f2 f3 f4
    obtain ⟨d0, p0⟩ := z0
    obtain ⟨d1, p1⟩ := z1
    obtain ⟨d2, p2⟩ := z2
    obtain ⟨d3, p3⟩ := z3
    obtain ⟨d4, p4⟩ := z4
    have hx1 := congrArg Prod.fst hx
    simp only [Rows.laid_capstan_cron_fields, List.map_cons, List.map_nil, DataW.agg.injEq, List.cons.injEq, and_true] at hx1
    obtain ⟨rfl, rfl, rfl, rfl, rfl⟩ := hx1
    obtain ⟨rfl, rfl⟩ := fld_cells f0
    obtain ⟨rfl, rfl⟩ := fld_cells f1
    obtain ⟨rfl, rfl⟩ := fld_cells f2
    obtain ⟨rfl, rfl⟩ := fld_cells f3
    obtain ⟨rfl, rfl⟩ := fld_cells f4
    rfl
  have hcell := fun i => World.var?_cell hg' hvar i
  refine ⟨fun j v hv => ?_, ?_⟩
  · rw [Nat.zero_add, hcell j, ← Array.getElem?_toList, hc]
    exact hv
  · have h0 : W.cell? ⟨0, 0, none⟩ = some (.int .i64 0) := by rw [hcell 0, ← Array.getElem?_toList, hc]; rfl
    exact World.block_lt_of_cell? _ _ h0

structure Cr.Wf (x : Cr) : Prop where
  a : (Lit.int .u64 (x.a : Nat)).wf = true
  b : (Lit.int .u64 (x.b : Nat)).wf = true
  c : (Lit.int .u64 (x.c : Nat)).wf = true
  d : (Lit.int .u64 (x.d : Nat)).wf = true
  e : (Lit.int .u64 (x.e : Nat)).wf = true
theorem Cr.Wf.fits {c : Cr} (h : c.Wf) : c.Fits := by
  have ka := bounds_u64 h.a
  have kb := bounds_u64 h.b
  have kc := bounds_u64 h.c
  have kd := bounds_u64 h.d
  have ke := bounds_u64 h.e
  constructor <;> omega
theorem u64_nat {a : Int} (h : (Lit.int .u64 a).wf = true) : ∃ n : Nat, a = (n : Int) := ⟨a.toNat, by have := bounds_u64 h; omega⟩
abbrev cronD {H : Type} (c : Cr) : DataW H := .agg [.lit (.int .u64 (c.a : Nat)), .lit (.int .u64 (c.b : Nat)), .lit (.int .u64 (c.c : Nat)), .lit (.int .u64 (c.d : Nat)), .lit (.int .u64 (c.e : Nat))]
section
variable {H : Type} {enc : TypeId × Value → H} {W : World} {base : Nat} {sp : Nat → Bool} {held : Bool}
set_option maxRecDepth 10000 in
theorem open_cron {r : Reach} {b0 : Nat} {v : Value} {d : DataW H} {ps : List MemPlace} (hval : Value.okWide Tryd.prog W r b0 24 v) (hd : DataW.Trod enc Tryd.prog W base sp held 24 v d ps) :
    ∃ c : Cr, v = cronV c ∧ d = cronD c ∧ ps = [] ∧ c.Wf := by
  simp only [Value.okWide, Tryd.underlying24] at hval
  obtain ⟨cs, rfl, _⟩ := hval
  obtain ⟨fuel, hf⟩ := hd
  obtain ⟨xs, m, rfl, hx1, hl, hlen, hf⟩ := DataW.trod_struct Tryd.underlying24 hf
  obtain ⟨c⟩ := cs
  simp only [Value.cells] at hl hf
  rw [cCron] at hl
  obtain ⟨v0, v1, v2, v3, v4, rfl⟩ := list5 c hl
  obtain ⟨z0, z1, z2, z3, z4, rfl⟩ := list5 xs hlen
  have f0 : DataW.trod enc Tryd.prog W base sp held m 22 (([v0, v1, v2, v3, v4].drop 0).take (Tryd.prog.cellsOf 22)) = [z0, z1, z2, z3, z4][0]? := hf 0 _ rfl
  have f1 : DataW.trod enc Tryd.prog W base sp held m 22 (([v0, v1, v2, v3, v4].drop 1).take (Tryd.prog.cellsOf 22)) = [z0, z1, z2, z3, z4][1]? := hf 1 _ rfl
  have f2 : DataW.trod enc Tryd.prog W base sp held m 22 (([v0, v1, v2, v3, v4].drop 2).take (Tryd.prog.cellsOf 22)) = [z0, z1, z2, z3, z4][2]? := hf 2 _ rfl
  have f3 : DataW.trod enc Tryd.prog W base sp held m 22 (([v0, v1, v2, v3, v4].drop 3).take (Tryd.prog.cellsOf 22)) = [z0, z1, z2, z3, z4][3]? := hf 3 _ rfl
  have f4 : DataW.trod enc Tryd.prog W base sp held m 22 (([v0, v1, v2, v3, v4].drop 4).take (Tryd.prog.cellsOf 22)) = [z0, z1, z2, z3, z4][4]? := hf 4 _ rfl
  simp only [cU64, List.drop_zero, List.take_succ_cons, List.take_zero, List.drop_succ_cons, List.getElem?_cons_zero, List.getElem?_cons_succ] at f0 f1 f2 f3 f4
  obtain ⟨a0, e0, rfl, w0⟩ := DataW.trod_int Tryd.underlying22 f0
  obtain ⟨a1, e1, rfl, w1⟩ := DataW.trod_int Tryd.underlying22 f1
  obtain ⟨a2, e2, rfl, w2⟩ := DataW.trod_int Tryd.underlying22 f2
  obtain ⟨a3, e3, rfl, w3⟩ := DataW.trod_int Tryd.underlying22 f3
  obtain ⟨a4, e4, rfl, w4⟩ := DataW.trod_int Tryd.underlying22 f4
  obtain ⟨n0, rfl⟩ := u64_nat w0
  obtain ⟨n1, rfl⟩ := u64_nat w1
  obtain ⟨n2, rfl⟩ := u64_nat w2
  obtain ⟨n3, rfl⟩ := u64_nat w3
  obtain ⟨n4, rfl⟩ := u64_nat w4
  simp only [List.cons.injEq, and_true] at e0 e1 e2 e3 e4
  simp only [List.map_cons, List.map_nil, List.flatMap_cons, List.flatMap_nil, List.append_nil, Prod.mk.injEq] at hx1
  exact ⟨⟨n0, n1, n2, n3, n4⟩, by rw [e0, e1, e2, e3, e4], hx1.1, hx1.2, ⟨w0, w1, w2, w3, w4⟩⟩
theorem shut_cron {c : Cr} (h : c.Wf) : DataW.Trod enc Tryd.prog W base sp held 24 (cronV c) (cronD c) [] :=
  ⟨3, by
    have h0 : DataW.trod enc Tryd.prog W base sp held 2 22 [.int .u64 (c.a : Nat)] = some (.lit (.int .u64 (c.a : Nat)), []) := by simp [DataW.trod, Tryd.underlying22, h.a]
    have h1 : DataW.trod enc Tryd.prog W base sp held 2 22 [.int .u64 (c.b : Nat)] = some (.lit (.int .u64 (c.b : Nat)), []) := by simp [DataW.trod, Tryd.underlying22, h.b]
    have h2 : DataW.trod enc Tryd.prog W base sp held 2 22 [.int .u64 (c.c : Nat)] = some (.lit (.int .u64 (c.c : Nat)), []) := by simp [DataW.trod, Tryd.underlying22, h.c]
    have h3 : DataW.trod enc Tryd.prog W base sp held 2 22 [.int .u64 (c.d : Nat)] = some (.lit (.int .u64 (c.d : Nat)), []) := by simp [DataW.trod, Tryd.underlying22, h.d]
    have h4 : DataW.trod enc Tryd.prog W base sp held 2 22 [.int .u64 (c.e : Nat)] = some (.lit (.int .u64 (c.e : Nat)), []) := by simp [DataW.trod, Tryd.underlying22, h.e]
    have := trod_struct_mk (enc := enc) (P := Tryd.prog) (w := W) (base := base) (spare := sp) (held := held) (n := 2) (cs := u5 c.a c.b c.c c.d c.e)
      (xs := [(.lit (.int .u64 (c.a : Nat)), []), (.lit (.int .u64 (c.b : Nat)), []), (.lit (.int .u64 (c.c : Nat)), []), (.lit (.int .u64 (c.d : Nat)), []), (.lit (.int .u64 (c.e : Nat)), [])]) Tryd.underlying24 (by rw [cCron]; rfl) (by simp [cU64, h0, h1, h2, h3, h4])
    show DataW.trod enc Tryd.prog W base sp held 3 24 (u5 c.a c.b c.c c.d c.e) = _
    simpa using this⟩
end
end Go.Proofs.YtddinknnaakmmabDoor

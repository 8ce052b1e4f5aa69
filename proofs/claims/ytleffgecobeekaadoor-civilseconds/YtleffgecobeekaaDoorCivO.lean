/- From what the program's text lays to what the walks ask, and a date as an argument: from what is read to the numbers, and back. -/
import Derived.Test.YtleffgecobeekaaDoorRows
import Derived.Test.YtleffgecobeekaaDoorCivF
import Derived.Lib.LaidTab
import Derived.OpenShut
import Derived.Stop.LaidErr
import Derived.MakeChecks
import Derived.ChangeSame
import Derived.WalkKit
import Derived.ProofKit
import Derived.LaidMore
namespace Go.Proofs.YtleffgecobeekaaDoor
open Go.RowKit Go.ChangeShapes Go.WideShapes

theorem lens_rows : (Rows.laid_capstan_civil_lengths : DataW Unit) = Lib.tabData .i64 lens := by kernel_rfl
theorem c2 : Tryd.prog.cellsOf 2 = 1 := by kernel_rfl
theorem c3 : Tryd.prog.cellsOf 3 = 1 := by kernel_rfl
theorem c12 : Tryd.prog.cellsOf 38 = 12 := by kernel_rfl
theorem c24 : Tryd.prog.cellsOf 24 = 7 := by kernel_rfl
theorem gLens : Tryd.prog.globalNamed "capstan/civil.lengths" = some 0 := by kernel_rfl
theorem tLens : (Tryd.prog.globals[0]?).map (·.type) = some 38 := by kernel_rfl
theorem len_of_head {W : World} {rest : List (String × DataW Unit)} (h : laidMet Tryd.prog (("capstan/civil.lengths", Rows.laid_capstan_civil_lengths) :: rest) W) : LenAt W := by
  obtain ⟨ps, ⟨g', t', cs, fuel, p, q, hg', ht', hvar, hd, _, _⟩, _⟩ := h
  obtain rfl := Option.some.inj (gLens.symm.trans hg')
  obtain rfl := Option.some.inj (tLens.symm.trans ht')
  rw [lens_rows] at hd
  have hc := Lib.cells_of_tab Tryd.underlying38 Tryd.underlying3 c3 c12 hd
  have hc : cs.toList = lenCells := hc
  have hcell := fun i => World.var?_cell hg' hvar i
  refine ⟨fun j v hv => ?_, ?_⟩
  · rw [Nat.zero_add, hcell j, ← Array.getElem?_toList, hc]
    exact hv
  · have h0 : W.cell? ⟨0, 0, none⟩ = some (.int .i64 31) := by rw [hcell 0, ← Array.getElem?_toList, hc]; rfl
    exact World.block_lt_of_cell? _ _ h0

structure Civ.Wf (c : Civ) : Prop where
  y : (Lit.int .i64 c.year).wf = true
  m : (Lit.int .i64 c.month).wf = true
  d : (Lit.int .i64 c.day).wf = true
  h : (Lit.int .i64 c.hour).wf = true
  n : (Lit.int .i64 c.minute).wf = true
  s : (Lit.int .i64 c.second).wf = true
  w : (Lit.int .i64 c.week).wf = true
theorem Civ.Wf.fits {c : Civ} (h : c.Wf) : c.Fits := by
  have ky := bounds_i64 h.y
  have km := bounds_i64 h.m
  have kd := bounds_i64 h.d
  have kh := bounds_i64 h.h
  have kn := bounds_i64 h.n
  have ks := bounds_i64 h.s
  have kw := bounds_i64 h.w
  constructor <;> omega
abbrev civD {H : Type} (c : Civ) : DataW H := .agg [.lit (.int .i64 c.year), .lit (.int .i64 c.month), .lit (.int .i64 c.day), .lit (.int .i64 c.hour), .lit (.int .i64 c.minute), .lit (.int .i64 c.second), .lit (.int .i64 c.week)]
theorem list7 {α : Type} : ∀ (c : List α), c.length = 7 → ∃ v0 v1 v2 v3 v4 v5 v6, c = [v0, v1, v2, v3, v4, v5, v6]
  | [v0, v1, v2, v3, v4, v5, v6], _ => ⟨v0, v1, v2, v3, v4, v5, v6, rfl⟩
section
variable {H : Type} {enc : TypeId × Value → H} {W : World} {base : Nat} {sp : Nat → Bool} {held : Bool}
set_option maxRecDepth 10000 in
theorem open_civ {r : Reach} {b0 : Nat} {v : Value} {d : DataW H} {ps : List MemPlace} (hval : Value.okWide Tryd.prog W r b0 24 v) (hd : DataW.Trod enc Tryd.prog W base sp held 24 v d ps) :
    ∃ c : Civ, v = civV c ∧ d = civD c ∧ ps = [] ∧ c.Wf := by
  simp only [Value.okWide, Tryd.underlying24] at hval
  obtain ⟨cs, rfl, _⟩ := hval
  obtain ⟨fuel, hf⟩ := hd
  obtain ⟨xs, m, rfl, hx1, hl, hlen, hf⟩ := DataW.trod_struct Tryd.underlying24 hf
  obtain ⟨c⟩ := cs
  simp only [Value.cells] at hl hf
  rw [c24] at hl
  obtain ⟨v0, v1, v2, v3, v4, v5, v6, rfl⟩ := list7 c hl
  obtain ⟨z0, z1, z2, z3, z4, z5, z6, rfl⟩ := list7 xs hlen
  have f0 : DataW.trod enc Tryd.prog W base sp held m 2 (([v0, v1, v2, v3, v4, v5, v6].drop 0).take (Tryd.prog.cellsOf 2)) = [z0, z1, z2, z3, z4, z5, z6][0]? := hf 0 _ rfl
  have f1 : DataW.trod enc Tryd.prog W base sp held m 3 (([v0, v1, v2, v3, v4, v5, v6].drop 1).take (Tryd.prog.cellsOf 3)) = [z0, z1, z2, z3, z4, z5, z6][1]? := hf 1 _ rfl
  have f2 : DataW.trod enc Tryd.prog W base sp held m 3 (([v0, v1, v2, v3, v4, v5, v6].drop 2).take (Tryd.prog.cellsOf 3)) = [z0, z1, z2, z3, z4, z5, z6][2]? := hf 2 _ rfl
  have f3 : DataW.trod enc Tryd.prog W base sp held m 3 (([v0, v1, v2, v3, v4, v5, v6].drop 3).take (Tryd.prog.cellsOf 3)) = [z0, z1, z2, z3, z4, z5, z6][3]? := hf 3 _ rfl
  have f4 : DataW.trod enc Tryd.prog W base sp held m 3 (([v0, v1, v2, v3, v4, v5, v6].drop 4).take (Tryd.prog.cellsOf 3)) = [z0, z1, z2, z3, z4, z5, z6][4]? := hf 4 _ rfl
  have f5 : DataW.trod enc Tryd.prog W base sp held m 3 (([v0, v1, v2, v3, v4, v5, v6].drop 5).take (Tryd.prog.cellsOf 3)) = [z0, z1, z2, z3, z4, z5, z6][5]? := hf 5 _ rfl
  have f6 : DataW.trod enc Tryd.prog W base sp held m 3 (([v0, v1, v2, v3, v4, v5, v6].drop 6).take (Tryd.prog.cellsOf 3)) = [z0, z1, z2, z3, z4, z5, z6][6]? := hf 6 _ rfl
  simp only [c2, c3, List.drop_zero, List.take_succ_cons, List.take_zero, List.drop_succ_cons, List.getElem?_cons_zero, List.getElem?_cons_succ] at f0 f1 f2 f3 f4 f5 f6
  obtain ⟨a0, e0, rfl, w0⟩ := DataW.trod_int Tryd.underlying2 f0
  obtain ⟨a1, e1, rfl, w1⟩ := DataW.trod_int Tryd.underlying3 f1
  obtain ⟨a2, e2, rfl, w2⟩ := DataW.trod_int Tryd.underlying3 f2
  obtain ⟨a3, e3, rfl, w3⟩ := DataW.trod_int Tryd.underlying3 f3
  obtain ⟨a4, e4, rfl, w4⟩ := DataW.trod_int Tryd.underlying3 f4
  obtain ⟨a5, e5, rfl, w5⟩ := DataW.trod_int Tryd.underlying3 f5
  obtain ⟨a6, e6, rfl, w6⟩ := DataW.trod_int Tryd.underlying3 f6
  simp only [List.cons.injEq, and_true] at e0 e1 e2 e3 e4 e5 e6
  simp only [List.map_cons, List.map_nil, List.flatMap_cons, List.flatMap_nil, List.append_nil, Prod.mk.injEq] at hx1
  exact ⟨⟨a0, a1, a2, a3, a4, a5, a6⟩, by rw [e0, e1, e2, e3, e4, e5, e6], hx1.1, hx1.2, ⟨w0, w1, w2, w3, w4, w5, w6⟩⟩
theorem shut_civ {c : Civ} (h : c.Wf) : DataW.Trod enc Tryd.prog W base sp held 24 (civV c) (civD c) [] :=
  ⟨3, by
    have h0 : DataW.trod enc Tryd.prog W base sp held 2 2 [.int .i64 c.year] = some (.lit (.int .i64 c.year), []) := by simp [DataW.trod, Tryd.underlying2, h.y]
    have h1 : DataW.trod enc Tryd.prog W base sp held 2 3 [.int .i64 c.month] = some (.lit (.int .i64 c.month), []) := by simp [DataW.trod, Tryd.underlying3, h.m]
    have h2 : DataW.trod enc Tryd.prog W base sp held 2 3 [.int .i64 c.day] = some (.lit (.int .i64 c.day), []) := by simp [DataW.trod, Tryd.underlying3, h.d]
    have h3 : DataW.trod enc Tryd.prog W base sp held 2 3 [.int .i64 c.hour] = some (.lit (.int .i64 c.hour), []) := by simp [DataW.trod, Tryd.underlying3, h.h]
    have h4 : DataW.trod enc Tryd.prog W base sp held 2 3 [.int .i64 c.minute] = some (.lit (.int .i64 c.minute), []) := by simp [DataW.trod, Tryd.underlying3, h.n]
    have h5 : DataW.trod enc Tryd.prog W base sp held 2 3 [.int .i64 c.second] = some (.lit (.int .i64 c.second), []) := by simp [DataW.trod, Tryd.underlying3, h.s]
    have h6 : DataW.trod enc Tryd.prog W base sp held 2 3 [.int .i64 c.week] = some (.lit (.int .i64 c.week), []) := by simp [DataW.trod, Tryd.underlying3, h.w]
    have := trod_struct_mk (enc := enc) (P := Tryd.prog) (w := W) (base := base) (spare := sp) (held := held) (n := 2) (cs := civCells c)
      (xs := [(.lit (.int .i64 c.year), []), (.lit (.int .i64 c.month), []), (.lit (.int .i64 c.day), []), (.lit (.int .i64 c.hour), []), (.lit (.int .i64 c.minute), []), (.lit (.int .i64 c.second), []), (.lit (.int .i64 c.week), [])]) Tryd.underlying24 (by rw [c24]; rfl) (by simp [c2, c3, h0, h1, h2, h3, h4, h5, h6])
    show DataW.trod enc Tryd.prog W base sp held 3 24 (civCells c) = _
    simpa using this⟩
end
end Go.Proofs.YtleffgecobeekaaDoor

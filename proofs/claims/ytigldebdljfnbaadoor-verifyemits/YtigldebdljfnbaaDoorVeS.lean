/- What the program's text lays for the laws of layer 23. -/
import Derived.Test.YtigldebdljfnbaaDoorNcB
import Derived.Test.YtigldebdljfnbaaDoorRows
import Derived.OpenShut
import Derived.ChangeSlices
import Derived.ChangeMaps5
import Derived.Deep.Slices
import Derived.Lib.LaidTab
import Derived.Lib.LaidU8
import Derived.Lay
import Derived.MakeChecks
import Derived.Deep.DeepHandedRow
import Derived.LaidLaws
import Derived.Test.YtigldebdljfnbaaDoorNcC
import Derived.Test.YtigldebdljfnbaaDoorMgW
namespace Go.Proofs.YtigldebdljfnbaaDoor
open Go.RowKit Go.ChangeShapes Go.WideShapes Go.Deep Go.ChangeMaps
set_option maxRecDepth 100000

theorem witness_laid {H : Type} {enc : TypeId × Value → H} {C : Checked} {os : Os} {f : FuncId} {fn : Func} {s : OpenSpec} {conds : List PathCond} {apart : Bool} {laid : List (String × DataW Unit)} (w0 : World) (args : Array Value) (hos : w0.os = os)
    (hsh : (w0.forCall (fun _ _ => 0) ⟨#[], args, []⟩).Shaped C.prog)
    (hok : Input.okWideB C.prog (w0.forCall (fun _ _ => 0) ⟨#[], args, []⟩) f ⟨#[], args, []⟩ = true)
    (hrow : s.preRow enc C.prog fn conds apart laid (w0.forCall (fun _ _ => 0) ⟨#[], args, []⟩).memory args) :
    ∃ (w : World) (tape : Tape) (i : Input), w.os = os ∧ (w.forCall tape i).Shaped C.prog ∧ i.vars = [] ∧ Input.okWide C.prog (w.forCall tape i) .any w.heap.size f i ∧
      s.preRow enc C.prog fn conds apart laid (w.forCall tape i).memory i.args ∧ ({} : Assume).holds C.prog (lone (Frame.enter C.prog f i.args .normal) [] (w.forCall tape i)) :=
  ⟨w0, fun _ _ => 0, ⟨#[], args, []⟩, hos, hsh, (Input.okWide_of_okWideB (base := 0) hok).1, (Input.okWide_of_okWideB hok).2, hrow, by
    simp only [Assume.holds]
    exact ⟨by simp, by simp, fun _ => Modest.zero, by simp, by simp⟩⟩
abbrev laid23T : List (String × DataW Unit) := [("capstan/cron.fields", Rows.laid_capstan_cron_fields), ("capstan/verify.table", Rows.laid_capstan_verify_table)]
theorem laid23_met (os : Os) (args : Array Value) : laidMetH Tryd.prog laid23T ((World.laidAll Tryd.prog os laid23T).forCall (fun _ _ => 0) ⟨#[], args, []⟩).memory := by
  rw [MakeChecks.laidMetH_plain _ _ _ (by kernel_rfl)]
  exact laidMet_laidAll _ (by kernel_rfl) (by kernel_rfl)
theorem cInt : Tryd.prog.cellsOf 3 = 1 := by kernel_rfl
theorem cFld : Tryd.prog.cellsOf 115 = 2 := by kernel_rfl
theorem cFlds : Tryd.prog.cellsOf 116 = 10 := by kernel_rfl
theorem list5 {α : Type} : ∀ (c : List α), c.length = 5 → ∃ v0 v1 v2 v3 v4, c = [v0, v1, v2, v3, v4]
  | [v0, v1, v2, v3, v4], _ => ⟨v0, v1, v2, v3, v4, rfl⟩
theorem list10 {α : Type} : ∀ (c : List α), c.length = 10 → ∃ v0 v1 v2 v3 v4 v5 v6 v7 v8 v9, c = [v0, v1, v2, v3, v4, v5, v6, v7, v8, v9]
  | [v0, v1, v2, v3, v4, v5, v6, v7, v8, v9], _ => ⟨v0, v1, v2, v3, v4, v5, v6, v7, v8, v9, rfl⟩
theorem gFld : Tryd.prog.globalNamed "capstan/cron.fields" = some 1 := by kernel_rfl
theorem tFld : (Tryd.prog.globals[1]?).map (·.type) = some 116 := by kernel_rfl
theorem fld_cells {H : Type} {enc : TypeId × Value → H} {W : World} {base : Nat} {sp : Nat → Bool} {held : Bool} {fuel : Nat} {v0 v1 : Value} {a b : Int} {q : List MemPlace} (h : DataW.trod enc Tryd.prog W base sp held fuel 115 [v0, v1] = some (.agg [.lit (.int .i64 a), .lit (.int .i64 b)], q)) : v0 = .int .i64 a ∧ v1 = .int .i64 b := by
  obtain ⟨y0, y1, n, hx, hl, h0, h1⟩ := trod_struct2 Tryd.underlying115 h
  have f0 : DataW.trod enc Tryd.prog W base sp held n 3 (([v0, v1].drop 0).take (Tryd.prog.cellsOf 3)) = some y0 := h0
  have f1 : DataW.trod enc Tryd.prog W base sp held n 3 (([v0, v1].drop 1).take (Tryd.prog.cellsOf 3)) = some y1 := h1
  simp only [cInt, List.drop_zero, List.take_succ_cons, List.take_zero, List.drop_succ_cons] at f0 f1
  obtain ⟨a0, e0, rfl, w0⟩ := DataW.trod_int Tryd.underlying3 f0
  obtain ⟨a1, e1, rfl, w1⟩ := DataW.trod_int Tryd.underlying3 f1
  simp only [List.cons.injEq, and_true] at e0 e1
  simp only [Prod.mk.injEq, DataW.agg.injEq, List.cons.injEq, DataW.lit.injEq, Lit.int.injEq, and_true, true_and] at hx
  obtain ⟨⟨rfl, rfl⟩, _⟩ := hx
  exact ⟨e0, e1⟩
theorem fld_of_laid23 {W : World} (hh : laidMetH Tryd.prog laid23T W) : FldAt W := by
  rw [MakeChecks.laidMetH_plain _ _ _ (by kernel_rfl)] at hh
  obtain ⟨g', t', cs, fuel, p, hg', ht', hvar, hd⟩ := Lib.laidMet.reads hh (n := "capstan/cron.fields") (d := Rows.laid_capstan_cron_fields) (by simp)
  obtain rfl := Option.some.inj (gFld.symm.trans hg')
  obtain rfl := Option.some.inj (tFld.symm.trans ht')
  obtain ⟨xs, m, rfl, hx, hl, hlen, hel⟩ := DataW.trod_array Tryd.underlying116 hd
  rw [cFlds] at hl
  have hc : cs.toList = fldCells := by
    generalize cs.toList = c at *
    obtain ⟨v0, v1, v2, v3, v4, v5, v6, v7, v8, v9, rfl⟩ := list10 c hl
    obtain ⟨z0, z1, z2, z3, z4, rfl⟩ := list5 xs hlen
    have f0 := hel 0 (by decide)
    have f1 := hel 1 (by decide)
    have f2 := hel 2 (by decide)
    have f3 := hel 3 (by decide)
    have f4 := hel 4 (by decide)
    simp only [cFld, Nat.zero_mul, Nat.one_mul, Nat.reduceMul, List.drop_zero, List.take_succ_cons, List.take_zero, List.drop_succ_cons, List.getElem?_cons_zero, List.getElem?_cons_succ] at f0 f1 f2 f3 f4
    obtain ⟨d0, p0⟩ := z0
    obtain ⟨d1, p1⟩ := z1
    obtain ⟨d2, p2⟩ := z2
    obtain ⟨d3, p3⟩ := z3
    obtain ⟨d4, p4⟩ := z4
    have hx1 := congrArg Prod.fst hx
    simp only [Rows.laid_capstan_cron_fields, List.map_cons, List.map_nil, DataW.agg.injEq, List.cons.injEq, and_true] at hx1
    obtain ⟨rfl, rfl, rfl, rfl, rfl⟩ := hx1
    obtain ⟨rfl, rfl⟩ := fld_cells f0
    obtain ⟨rfl, rfl⟩ := fld_cells f1
    obtain ⟨rfl, rfl⟩ := fld_cells f2
    obtain ⟨rfl, rfl⟩ := fld_cells f3
    obtain ⟨rfl, rfl⟩ := fld_cells f4
    rfl
  have hcell := fun i => World.var?_cell hg' hvar i
  refine ⟨fun j v hv => ?_, ?_⟩
  · rw [Nat.zero_add, hcell j, ← Array.getElem?_toList, hc]
    exact hv
  · have h0 : W.cell? ⟨1, 0, none⟩ = some (.int .i64 0) := by rw [hcell 0, ← Array.getElem?_toList, hc]; rfl
    exact World.block_lt_of_cell? _ _ h0


theorem cSt : Tryd.prog.cellsOf 65 = 2 := by kernel_rfl
theorem cRw : Tryd.prog.cellsOf 99 = 10 := by kernel_rfl
theorem cTab : Tryd.prog.cellsOf 110 = 180 := by kernel_rfl
theorem list7v {α : Type} : ∀ (c : List α), c.length = 7 → ∃ v0 v1 v2 v3 v4 v5 v6, c = [v0, v1, v2, v3, v4, v5, v6]
  | [v0, v1, v2, v3, v4, v5, v6], _ => ⟨v0, v1, v2, v3, v4, v5, v6, rfl⟩
theorem st_cells {H : Type} {enc : TypeId × Value → H} {W : World} {base : Nat} {sp : Nat → Bool} {held : Bool} {fuel : Nat} {v0 v1 : Value} {a b : Int} {q : List MemPlace} (h : DataW.trod enc Tryd.prog W base sp held fuel 65 [v0, v1] = some (.agg [.lit (.int .i64 a), .lit (.int .i64 b)], q)) : v0 = .int .i64 a ∧ v1 = .int .i64 b := by
  obtain ⟨y0, y1, n, hx, hl, h0, h1⟩ := trod_struct2 Tryd.underlying65 h
  have f0 : DataW.trod enc Tryd.prog W base sp held n 3 (([v0, v1].drop 0).take (Tryd.prog.cellsOf 3)) = some y0 := h0
  have f1 : DataW.trod enc Tryd.prog W base sp held n 3 (([v0, v1].drop 1).take (Tryd.prog.cellsOf 3)) = some y1 := h1
  simp only [cInt, List.drop_zero, List.take_succ_cons, List.take_zero, List.drop_succ_cons] at f0 f1
  obtain ⟨a0, e0, rfl, w0⟩ := DataW.trod_int Tryd.underlying3 f0
  obtain ⟨a1, e1, rfl, w1⟩ := DataW.trod_int Tryd.underlying3 f1
  simp only [List.cons.injEq, and_true] at e0 e1
  simp only [Prod.mk.injEq, DataW.agg.injEq, List.cons.injEq, DataW.lit.injEq, Lit.int.injEq, and_true, true_and] at hx
  obtain ⟨⟨rfl, rfl⟩, _⟩ := hx
  exact ⟨e0, e1⟩
def rowD {H : Type} (r : Rw) : DataW H := .agg [.lit (.int .i64 r.f), .lit (.int .i64 r.l), .lit (.int .i64 r.a), .agg [.lit (.int .i64 r.n1), .lit (.int .i64 r.n2)], .lit (.int .i64 r.d), .agg [.lit (.int .i64 r.x1), .lit (.int .i64 r.x2)], .agg [.lit (.int .i64 r.t1), .lit (.int .i64 r.t2)]]
theorem tab_rows {H : Type} : (Rows.laid_capstan_verify_table (H := H)) = .agg (rwT.map rowD) := rfl
theorem rw_cells {H : Type} {enc : TypeId × Value → H} {W : World} {base : Nat} {sp : Nat → Bool} {held : Bool} {fuel : Nat} {c : List Value} {r : Rw} {q : List MemPlace} (h : DataW.trod enc Tryd.prog W base sp held fuel 99 c = some (rowD r, q)) : c = rwL r := by
  obtain ⟨xs, m, rfl, hx1, hl, hlen, hf⟩ := DataW.trod_struct Tryd.underlying99 h
  rw [cRw] at hl
  obtain ⟨v0, v1, v2, v3, v4, v5, v6, v7, v8, v9, rfl⟩ := list10 c hl
  obtain ⟨z0, z1, z2, z3, z4, z5, z6, rfl⟩ := list7v xs hlen
  have f0 : DataW.trod enc Tryd.prog W base sp held m 3 (([v0, v1, v2, v3, v4, v5, v6, v7, v8, v9].drop 0).take (Tryd.prog.cellsOf 3)) = [z0, z1, z2, z3, z4, z5, z6][0]? := hf 0 _ rfl
  have f1 : DataW.trod enc Tryd.prog W base sp held m 3 (([v0, v1, v2, v3, v4, v5, v6, v7, v8, v9].drop 1).take (Tryd.prog.cellsOf 3)) = [z0, z1, z2, z3, z4, z5, z6][1]? := hf 1 _ rfl
  have f2 : DataW.trod enc Tryd.prog W base sp held m 3 (([v0, v1, v2, v3, v4, v5, v6, v7, v8, v9].drop 2).take (Tryd.prog.cellsOf 3)) = [z0, z1, z2, z3, z4, z5, z6][2]? := hf 2 _ rfl
  have f3 : DataW.trod enc Tryd.prog W base sp held m 65 (([v0, v1, v2, v3, v4, v5, v6, v7, v8, v9].drop 3).take (Tryd.prog.cellsOf 65)) = [z0, z1, z2, z3, z4, z5, z6][3]? := hf 3 _ rfl
  have f4 : DataW.trod enc Tryd.prog W base sp held m 3 (([v0, v1, v2, v3, v4, v5, v6, v7, v8, v9].drop 5).take (Tryd.prog.cellsOf 3)) = [z0, z1, z2, z3, z4, z5, z6][4]? := hf 4 _ rfl
  have f5 : DataW.trod enc Tryd.prog W base sp held m 65 (([v0, v1, v2, v3, v4, v5, v6, v7, v8, v9].drop 6).take (Tryd.prog.cellsOf 65)) = [z0, z1, z2, z3, z4, z5, z6][5]? := hf 5 _ rfl
  have f6 : DataW.trod enc Tryd.prog W base sp held m 65 (([v0, v1, v2, v3, v4, v5, v6, v7, v8, v9].drop 8).take (Tryd.prog.cellsOf 65)) = [z0, z1, z2, z3, z4, z5, z6][6]? := hf 6 _ rfl
  simp only [cInt, cSt, List.drop_zero, List.take_succ_cons, List.take_zero, List.drop_succ_cons, List.getElem?_cons_zero, List.getElem?_cons_succ] at f0 f1 f2 f3 f4 f5 f6
  obtain ⟨d0, p0⟩ := z0
  obtain ⟨d1, p1⟩ := z1
  obtain ⟨d2, p2⟩ := z2
  obtain ⟨d3, p3⟩ := z3
  obtain ⟨d4, p4⟩ := z4
  obtain ⟨d5, p5⟩ := z5
  obtain ⟨d6, p6⟩ := z6
  have hx2 := congrArg Prod.fst hx1
  simp only [rowD, List.map_cons, List.map_nil, DataW.agg.injEq, List.cons.injEq, and_true] at hx2
  obtain ⟨rfl, rfl, rfl, rfl, rfl, rfl, rfl⟩ := hx2
  obtain ⟨a0, e0, g0, -⟩ := DataW.trod_int Tryd.underlying3 f0
  obtain ⟨a1, e1, g1, -⟩ := DataW.trod_int Tryd.underlying3 f1
  obtain ⟨a2, e2, g2, -⟩ := DataW.trod_int Tryd.underlying3 f2
  obtain ⟨a4, e4, g4, -⟩ := DataW.trod_int Tryd.underlying3 f4
  simp only [List.cons.injEq, and_true, Prod.mk.injEq, DataW.lit.injEq, Lit.int.injEq, true_and] at e0 e1 e2 e4 g0 g1 g2 g4
  obtain ⟨k0, k1⟩ := st_cells f3
  obtain ⟨k2, k3⟩ := st_cells f5
  obtain ⟨k4, k5⟩ := st_cells f6
  rw [e0, e1, e2, e4, k0, k1, k2, k3, k4, k5, ← g0.1, ← g1.1, ← g2.1, ← g4.1]
theorem gTab : Tryd.prog.globalNamed "capstan/verify.table" = some 0 := by kernel_rfl
theorem tTab : (Tryd.prog.globals[0]?).map (·.type) = some 110 := by kernel_rfl
theorem tab_of_laid23 {W : World} (hh : laidMetH Tryd.prog laid23T W) : TabAt W := by
  rw [MakeChecks.laidMetH_plain _ _ _ (by kernel_rfl)] at hh
  obtain ⟨g', t', cs, fuel, p, hg', ht', hvar, hd⟩ := Lib.laidMet.reads hh (n := "capstan/verify.table") (d := Rows.laid_capstan_verify_table) (by simp)
  obtain rfl := Option.some.inj (gTab.symm.trans hg')
  obtain rfl := Option.some.inj (tTab.symm.trans ht')
  obtain ⟨xs, m, rfl, hx, hl, hlen, hel⟩ := DataW.trod_array Tryd.underlying110 hd
  rw [cTab] at hl
  have hx1 := congrArg Prod.fst hx
  rw [tab_rows] at hx1
  simp only [DataW.agg.injEq] at hx1
  have hch : ∀ k, k < 18 → (cs.toList.drop (k * 10)).take 10 = rwL (rwT.getD k rw0) := fun k hk => by
    have h1 := hel k hk
    rw [cRw] at h1
    have hxk : k < xs.length := by rw [hlen]; exact hk
    rw [List.getElem?_eq_getElem hxk] at h1
    have h2 : xs[k].1 = rowD (rwT.getD k rw0) := by
      have h3 := congrArg (fun l => l[k]?) hx1
      have hrk : k < rwT.length := hk
      simp only [List.getElem?_map, List.getElem?_eq_getElem hxk, List.getElem?_eq_getElem hrk, Option.map_some, Option.some.injEq] at h3
      rw [← h3]
      simp [List.getD, hrk]
    rw [show xs[k] = (xs[k].1, xs[k].2) from rfl, h2] at h1
    exact rw_cells h1
  have hcell := fun i => World.var?_cell hg' hvar i
  have hall : ∀ (j : Nat) v, tabCells[j]? = some v → cs.toList[j]? = some v := fun j v hv => by
    have hj : j < 180 := (List.getElem?_eq_some_iff.1 hv).1
    have hk : j / 10 < 18 := by omega
    have h1 := congrArg (fun l => l[j % 10]?) (hch (j / 10) hk)
    simp only [List.getElem?_take, List.getElem?_drop] at h1
    rw [if_pos (by omega), show j / 10 * 10 + j % 10 = j by omega] at h1
    rw [h1]
    have hrk : j / 10 < rwT.length := hk
    have h2 := flR_at (L := rwL) (k := 10) (fun _ => rfl) rwT (j / 10) (j % 10) (rwT.getD (j / 10) rw0) ((rwL (rwT.getD (j / 10) rw0))[j % 10]'(by show j % 10 < 10; omega)) (by simp [List.getD, hrk]) (List.getElem?_eq_getElem _)
    rw [show j / 10 * 10 + j % 10 = j by omega] at h2
    have h3 : (flR rwL rwT)[j]? = some v := hv
    rw [h3] at h2
    rw [h2]
    exact List.getElem?_eq_getElem _
  refine ⟨fun j v hv => ?_, ?_⟩
  · rw [Nat.zero_add, hcell j, ← Array.getElem?_toList]
    exact hall j v hv
  · have h0 : W.cell? ⟨0, 0, none⟩ = some (.int .i64 1) := by rw [hcell 0, ← Array.getElem?_toList]; exact hall 0 _ rfl
    exact World.block_lt_of_cell? _ _ h0
end Go.Proofs.YtigldebdljfnbaaDoor

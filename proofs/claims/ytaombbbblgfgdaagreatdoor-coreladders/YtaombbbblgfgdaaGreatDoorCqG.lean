/- With the table of schedules too: from what the program's text lays to what the walks ask; an input that fits: the library's errorType. -/
import Derived.Test.YtaombbbblgfgdaaGreatDoorRows
import Derived.Test.YtaombbbblgfgdaaGreatDoorCoL
import Derived.Test.YtaombbbblgfgdaaGreatDoorMgW
import Derived.Lib.LaidTab
import Derived.OpenShut
import Derived.LaidMore
import Derived.Lay
import Derived.MakeChecks
import Derived.LaidHandle
import Derived.LaidLaws
import Derived.Deep.DeepHandedRow
namespace Go.Proofs.YtaombbbblgfgdaaGreatDoor
open Go.RowKit Go.ChangeShapes Go.WideShapes

abbrev laidT : List (String × DataW Unit) := [("errors.errorType", Rows.laid_errors_errorType), ("capstan/cron.fields", Rows.laid_capstan_cron_fields)]
abbrev laidD : List (String × DataW Unit) := [("capstan/cron.fields", Rows.laid_capstan_cron_fields)]
theorem laid_split {W : World} (h : laidMetH Tryz.prog laidT W) : laidMet Tryz.prog laidD W ∧ handlesMet Tryz.prog [("errors.errorType", Rows.laid_errors_errorType)] W := h
theorem et_g : Tryz.prog.globalNamed "errors.errorType" = some 1 := by kernel_rfl
theorem et_rt : (Tryz.prog.cutTypes.find? (·.1 == "internal/reflectlite.rtype")).map (·.2) = some 195 := by kernel_rfl
theorem et_size : Tryz.prog.types.size = 240 := by kernel_rfl
theorem et_row : ((List.range 240).filter fun t => Tryz.prog.rowNamed t [101, 114, 114, 111, 114]) = [111] := by kernel_rfl
theorem gle_of_laid {W : World} (hh : laidMetH Tryz.prog laidT W) : GlE W := by
  obtain ⟨name, u, ty, e1, e2, e3, e4, e5⟩ := (laid_split hh).2 _ (List.mem_singleton.2 rfl)
  have en : name = [101, 114, 114, 111, 114] := (Option.some.inj e1).symm
  subst en
  obtain rfl := Option.some.inj (et_rt.symm.trans e2)
  have hm : ty ∈ (List.range 240).filter fun t => Tryz.prog.rowNamed t [101, 114, 114, 111, 114] := List.mem_filter.2 ⟨List.mem_range.2 (by rw [← et_size]; exact e3), e4⟩
  rw [et_row] at hm
  obtain rfl := List.mem_singleton.1 hm
  have hh2 : typeHandle Tryz.prog 111 = .pointer (some ⟨4, 111, none⟩) := by kernel_rfl
  rw [hh2] at e5
  simpa using World.var?_cell et_g e5 0
theorem witness_laid {H : Type} {enc : TypeId × Value → H} {C : Checked} {os : Os} {f : FuncId} {fn : Func} {s : OpenSpec} {conds : List PathCond} {apart : Bool} {laid : List (String × DataW Unit)} (w0 : World) (args : Array Value) (hos : w0.os = os)
    (hsh : (w0.forCall (fun _ _ => 0) ⟨#[], args, []⟩).Shaped C.prog)
    (hok : Input.okWideB C.prog (w0.forCall (fun _ _ => 0) ⟨#[], args, []⟩) f ⟨#[], args, []⟩ = true)
    (hrow : s.preRow enc C.prog fn conds apart laid (w0.forCall (fun _ _ => 0) ⟨#[], args, []⟩).memory args) :
    ∃ (w : World) (tape : Tape) (i : Input), w.os = os ∧ (w.forCall tape i).Shaped C.prog ∧ i.vars = [] ∧ Input.okWide C.prog (w.forCall tape i) .any w.heap.size f i ∧
      s.preRow enc C.prog fn conds apart laid (w.forCall tape i).memory i.args ∧ ({} : Assume).holds C.prog (lone (Frame.enter C.prog f i.args .normal) [] (w.forCall tape i)) :=
  ⟨w0, fun _ _ => 0, ⟨#[], args, []⟩, hos, hsh, (Input.okWide_of_okWideB (base := 0) hok).1, (Input.okWide_of_okWideB hok).2, hrow, by
    simp only [Assume.holds]
    exact ⟨by simp, by simp, fun _ => Modest.zero, by simp, by simp⟩⟩
/-- The library's variable, laid. -/
def setT : Obj → Obj
  | .cells _ t frozen => .cells #[.iface 195 (.agg #[.pointer (some ⟨4, 111, none⟩)])] t frozen
  | o => o
set_option maxRecDepth 100000 in
theorem laidW_os (os : Os) : ({ World.laidAll Tryz.prog os laidD with heap := (World.laidAll Tryz.prog os laidD).heap.modify 1 setT } : World).os = os := by
  exact World.laidAll_os Tryz.prog os laidD
theorem laid_met (os : Os) (args : Array Value) : laidMetH Tryz.prog laidT (({ World.laidAll Tryz.prog os laidD with heap := (World.laidAll Tryz.prog os laidD).heap.modify 1 setT } : World).forCall (fun _ _ => 0) ⟨#[], args, []⟩).memory :=
  laidMetH_of_parts (laidMet_of_run' 8 (by kernel_rfl) (by kernel_rfl)) (by kernel_rfl)
theorem cInt : Tryz.prog.cellsOf 3 = 1 := by kernel_rfl
theorem cFld : Tryz.prog.cellsOf 135 = 2 := by kernel_rfl
theorem cFlds : Tryz.prog.cellsOf 136 = 10 := by kernel_rfl
theorem list5 {α : Type} : ∀ (c : List α), c.length = 5 → ∃ v0 v1 v2 v3 v4, c = [v0, v1, v2, v3, v4]
  | [v0, v1, v2, v3, v4], _ => ⟨v0, v1, v2, v3, v4, rfl⟩
theorem list10 {α : Type} : ∀ (c : List α), c.length = 10 → ∃ v0 v1 v2 v3 v4 v5 v6 v7 v8 v9, c = [v0, v1, v2, v3, v4, v5, v6, v7, v8, v9]
  | [v0, v1, v2, v3, v4, v5, v6, v7, v8, v9], _ => ⟨v0, v1, v2, v3, v4, v5, v6, v7, v8, v9, rfl⟩
theorem gFld : Tryz.prog.globalNamed "capstan/cron.fields" = some 0 := by kernel_rfl
theorem tFld : (Tryz.prog.globals[0]?).map (·.type) = some 136 := by kernel_rfl
theorem fld_cells {H : Type} {enc : TypeId × Value → H} {W : World} {base : Nat} {sp : Nat → Bool} {held : Bool} {fuel : Nat} {v0 v1 : Value} {a b : Int} {q : List MemPlace} (h : DataW.trod enc Tryz.prog W base sp held fuel 135 [v0, v1] = some (.agg [.lit (.int .i64 a), .lit (.int .i64 b)], q)) : v0 = .int .i64 a ∧ v1 = .int .i64 b := by
  obtain ⟨y0, y1, n, hx, hl, h0, h1⟩ := trod_struct2 Tryz.underlying135 h
  have f0 : DataW.trod enc Tryz.prog W base sp held n 3 (([v0, v1].drop 0).take (Tryz.prog.cellsOf 3)) = some y0 := h0
  have f1 : DataW.trod enc Tryz.prog W base sp held n 3 (([v0, v1].drop 1).take (Tryz.prog.cellsOf 3)) = some y1 := h1
  simp only [cInt, List.drop_zero, List.take_succ_cons, List.take_zero, List.drop_succ_cons] at f0 f1
  obtain ⟨a0, e0, rfl, w0⟩ := DataW.trod_int Tryz.underlying3 f0
  obtain ⟨a1, e1, rfl, w1⟩ := DataW.trod_int Tryz.underlying3 f1
  simp only [List.cons.injEq, and_true] at e0 e1
  simp only [Prod.mk.injEq, DataW.agg.injEq, List.cons.injEq, DataW.lit.injEq, Lit.int.injEq, and_true, true_and] at hx
  obtain ⟨⟨rfl, rfl⟩, _⟩ := hx
  exact ⟨e0, e1⟩
set_option maxRecDepth 10000 in
theorem fld_of_head {W : World} {rest : List (String × DataW Unit)} (h : laidMet Tryz.prog (("capstan/cron.fields", Rows.laid_capstan_cron_fields) :: rest) W) : FldAt W := by
  obtain ⟨ps, ⟨g', t', cs, fuel, p, q, hg', ht', hvar, hd, _, _⟩, _⟩ := h
  obtain rfl := Option.some.inj (gFld.symm.trans hg')
  obtain rfl := Option.some.inj (tFld.symm.trans ht')
  obtain ⟨xs, m, rfl, hx, hl, hlen, hel⟩ := DataW.trod_array Tryz.underlying136 hd
  rw [cFlds] at hl
  have hc : cs.toList = fldCells := by
    generalize cs.toList = c at *
    obtain ⟨v0, v1, v2, v3, v4, v5, v6, v7, v8, v9, rfl⟩ := list10 c hl
    obtain ⟨z0, z1, z2, z3, z4, rfl⟩ := list5 xs hlen
    have f0 := hel 0 (by decide)
    have f1 := hel 1 (by decide)
    have f2 := hel 2 (by decide)
    have f3 := hel 3 (by decide)
    have f4 := hel 4 (by decide)
    simp only [cFld, Nat.zero_mul, Nat.one_mul, Nat.reduceMul, List.drop_zero, List.take_succ_cons, List.take_zero, List.drop_succ_cons, List.getElem?_cons_zero, List.getElem?_cons_succ] at f0 f1 f2 f3 f4
    obtain ⟨d0, p0⟩ := z0
    obtain ⟨d1, p1⟩ := z1
    obtain ⟨d2, p2⟩ := z2
    obtain ⟨d3, p3⟩ := z3
    obtain ⟨d4, p4⟩ := z4
    have hx1 := congrArg Prod.fst hx
    simp only [Rows.laid_capstan_cron_fields, List.map_cons, List.map_nil, DataW.agg.injEq, List.cons.injEq, and_true] at hx1
    obtain ⟨rfl, rfl, rfl, rfl, rfl⟩ := hx1
    obtain ⟨rfl, rfl⟩ := fld_cells f0
    obtain ⟨rfl, rfl⟩ := fld_cells f1
    obtain ⟨rfl, rfl⟩ := fld_cells f2
    obtain ⟨rfl, rfl⟩ := fld_cells f3
    obtain ⟨rfl, rfl⟩ := fld_cells f4
    rfl
  have hcell := fun i => World.var?_cell hg' hvar i
  refine ⟨fun j v hv => ?_, ?_⟩
  · rw [Nat.zero_add, hcell j, ← Array.getElem?_toList, hc]
    exact hv
  · have h0 : W.cell? ⟨0, 0, none⟩ = some (.int .i64 0) := by rw [hcell 0, ← Array.getElem?_toList, hc]; rfl
    exact World.block_lt_of_cell? _ _ h0

theorem fld_of_laid {W : World} (hh : laidMetH Tryz.prog laidT W) : FldAt W := fld_of_head (laid_split hh).1
end Go.Proofs.YtaombbbblgfgdaaGreatDoor

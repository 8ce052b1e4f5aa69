import Derived.Test.YtigldebdljfnbaaGreatDoorCqKdU
import Derived.Test.YtigldebdljfnbaaGreatDoorCqNbS
import Derived.Test.YtigldebdljfnbaaGreatDoorCqMhZ
import Derived.Test.YtigldebdljfnbaaGreatDoorCqNaD
import Derived.Lib.LaidTab
section
namespace Go.Proofs.YtigldebdljfnbaaGreatDoor
theorem emitC : EmitC := fun q hq p v w hs hF hP hw hc hm => emit_c q hq p v w hs hF hP hw hc hm
end Go.Proofs.YtigldebdljfnbaaGreatDoor
end
section
namespace Go.Proofs.YtigldebdljfnbaaGreatDoor
open Go.ChangeShapes Go.WideShapes Go.RowKit Go.Deep Go.ChangeMaps
set_option maxRecDepth 100000

abbrev laid21T : List (String × DataW Unit) := [("errors.errorType", Rows.laid_errors_errorType), ("capstan/cron.fields", Rows.laid_capstan_cron_fields), ("capstan/code.plainOps", Rows.laid_capstan_code_plainOps)]
abbrev laid21D : List (String × DataW Unit) := [("capstan/cron.fields", Rows.laid_capstan_cron_fields), ("capstan/code.plainOps", Rows.laid_capstan_code_plainOps)]
theorem laid21_split {W : World} (h : laidMetH Tryz.prog laid21T W) : laidMet Tryz.prog laid21D W ∧ handlesMet Tryz.prog [("errors.errorType", Rows.laid_errors_errorType)] W := h
theorem fld_of_laid21 {W : World} (hh : laidMetH Tryz.prog laid21T W) : FldAt W := fld_of_head (laid21_split hh).1
theorem laid21_os (os : Os) : ({ World.laidAll Tryz.prog os laid21D with heap := (World.laidAll Tryz.prog os laid21D).heap.modify 4 setT } : World).os = os := by
  exact World.laidAll_os Tryz.prog os laid21D
theorem laid21_met (os : Os) (args : Array Value) : laidMetH Tryz.prog laid21T (({ World.laidAll Tryz.prog os laid21D with heap := (World.laidAll Tryz.prog os laid21D).heap.modify 4 setT } : World).forCall (fun _ _ => 0) ⟨#[], args, []⟩).memory :=
  laidMetH_of_parts (laidMet_of_run' 8 (by kernel_rfl) (by kernel_rfl)) (by kernel_rfl)
theorem gPo : Tryz.prog.globalNamed "capstan/code.plainOps" = some 0 := by kernel_rfl
theorem tPo : (Tryz.prog.globals[0]?).map (·.type) = some 101 := by kernel_rfl
theorem cPo : Tryz.prog.cellsOf 101 = 32 := by kernel_rfl
theorem po_rows {H : Type} : (Rows.laid_capstan_code_plainOps (H := H)) = .agg (([0, 0, 0, 2, 3, 4, 5, 0, 6, 7, 8, 9, 10, 0, 12, 13, 14, 15, 16, 17, 18, 19, 20, 21, 22, 0, 0, 0, 0, 29, 30, 31] : List Int).map fun x => .lit (.int .i64 x)) := rfl
theorem po_of_laid21 {W : World} (hh : laidMetH Tryz.prog laid21T W) : PoAt W W.heap.size := by
  obtain ⟨ps, ⟨g0, t0, cs0, fuel0, p0, q0, -, -, -, -, hr, rfl⟩, hn, hm⟩ := (laid21_split hh).1
  obtain ⟨g', t', cs, fuel, p, q, hg', ht', hvar, hd, _, _⟩ := hr
  obtain rfl := Option.some.inj (gPo.symm.trans hg')
  obtain rfl := Option.some.inj (tPo.symm.trans ht')
  rw [po_rows] at hd
  have hc := Lib.cells_of_tab Tryz.underlying101 Tryz.underlying3 cInt cPo hd
  have hc : cs.toList = poT := hc
  have hcell := fun i => World.var?_cell hg' hvar i
  have hlt : 0 < W.heap.size := by
    have h0 : W.cell? ⟨0, 0, none⟩ = some (.int .i64 0) := by rw [hcell 0, ← Array.getElem?_toList, hc]; rfl
    exact World.block_lt_of_cell? _ _ h0
  exact ⟨hlt, hlt, fun j v hv => by rw [hcell j, ← Array.getElem?_toList, hc]; exact hv⟩
end Go.Proofs.YtigldebdljfnbaaGreatDoor
end

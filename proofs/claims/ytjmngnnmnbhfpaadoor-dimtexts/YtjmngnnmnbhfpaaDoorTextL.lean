/- From what the texts of program and library lay to what the walks of Text ask. -/
import Derived.Test.YtjmngnnmnbhfpaaDoorDimO
import Derived.Test.YtjmngnnmnbhfpaaDoorTextW
namespace Go.Proofs.YtjmngnnmnbhfpaaDoor
open Go.RowKit Go.ChangeShapes

theorem pow_rows : (Rows.laid_internal_strconv_uint64pow10 : DataW Unit) = Lib.tabData .u64 Lib.pow10Tab := by kernel_rfl
theorem tPow : (Tryd.prog.globals[5]?).map (·.type) = some 135 := by kernel_rfl
theorem cPow : Tryd.prog.cellsOf 135 = 20 := by kernel_rfl
theorem cU64 : Tryd.prog.cellsOf 92 = 1 := by kernel_rfl
theorem pow_of_head {W : World} {rest : List (String × DataW Unit)} (h : laidMet Tryd.prog (("internal/strconv.uint64pow10", Rows.laid_internal_strconv_uint64pow10) :: rest) W) : PowAt W := by
  rw [pow_rows] at h
  exact Lib.tabIs_of_head gPow tPow Tryd.underlying135 Tryd.underlying92 cU64 cPow h
theorem bases_rows : (Rows.laid_capstan_dim_bases : DataW Unit) = .agg [.lit (.string (baseN 0)), .lit (.string (baseN 1)), .lit (.string (baseN 2)), .lit (.string (baseN 3)), .lit (.string (baseN 4))] := by kernel_rfl
theorem gBases : Tryd.prog.globalNamed "capstan/dim.bases" = some 0 := by kernel_rfl
theorem tBases : (Tryd.prog.globals[0]?).map (·.type) = some 59 := by kernel_rfl
theorem cBases : Tryd.prog.cellsOf 59 = 5 := by kernel_rfl
theorem str_of {s : ByteArray} {l : List UInt8} (h : l = s.data.toList) : s = ⟨l.toArray⟩ := by rw [h]
theorem bases_of_head {W : World} {rest : List (String × DataW Unit)} (h : laidMet Tryd.prog (("capstan/dim.bases", Rows.laid_capstan_dim_bases) :: rest) W) : BasesAt W := by
  obtain ⟨ps, ⟨g', t', cs, fuel, p, q, hg', ht', hvar, hd, _, _⟩, _⟩ := h
  obtain rfl := Option.some.inj (gBases.symm.trans hg')
  obtain rfl := Option.some.inj (tBases.symm.trans ht')
  rw [bases_rows] at hd
  obtain ⟨xs, m, rfl, hx, hl, hlen, hel⟩ := DataW.trod_array Tryd.underlying59 hd
  rw [cBases] at hl
  obtain ⟨v0, v1, v2, v3, v4, hc⟩ := list5 cs.toList hl
  obtain ⟨z0, z1, z2, z3, z4, rfl⟩ := list5 xs hlen
  rw [hc] at hel
  have f0 := hel 0 (by decide)
  have f1 := hel 1 (by decide)
  have f2 := hel 2 (by decide)
  have f3 := hel 3 (by decide)
  have f4 := hel 4 (by decide)
  simp only [c9, Nat.mul_one, List.drop_zero, List.take_succ_cons, List.take_zero, List.drop_succ_cons, List.getElem?_cons_zero, List.getElem?_cons_succ] at f0 f1 f2 f3 f4
  obtain ⟨a0, e0, rfl, _⟩ := DataW.trod_string Tryd.underlying9 f0
  obtain ⟨a1, e1, rfl, _⟩ := DataW.trod_string Tryd.underlying9 f1
  obtain ⟨a2, e2, rfl, _⟩ := DataW.trod_string Tryd.underlying9 f2
  obtain ⟨a3, e3, rfl, _⟩ := DataW.trod_string Tryd.underlying9 f3
  obtain ⟨a4, e4, rfl, _⟩ := DataW.trod_string Tryd.underlying9 f4
  simp only [List.cons.injEq, and_true] at e0 e1 e2 e3 e4
  simp only [List.map_cons, List.map_nil, Prod.mk.injEq, DataW.agg.injEq, List.cons.injEq, DataW.lit.injEq, Lit.string.injEq, and_true] at hx
  obtain ⟨⟨q0, q1, q2, q3, q4⟩, _⟩ := hx
  have hcell := fun i => World.var?_cell hg' hvar i
  have hcell : ∀ i, W.cell? ⟨0, i, none⟩ = [v0, v1, v2, v3, v4][i]? := fun i => by rw [hcell i, ← Array.getElem?_toList, hc]
  have hall : ∀ k, k < 5 → W.cell? ⟨0, k, none⟩ = some (.string ⟨(baseN k).toArray⟩) := by
    intro k hk
    rw [hcell k, e0, e1, e2, e3, e4, str_of q0, str_of q1, str_of q2, str_of q3, str_of q4]
    rcases (show k = 0 ∨ k = 1 ∨ k = 2 ∨ k = 3 ∨ k = 4 by omega) with rfl | rfl | rfl | rfl | rfl <;> rfl
  exact ⟨hall, World.block_lt_of_cell? _ _ (hall 0 (by decide))⟩
end Go.Proofs.YtjmngnnmnbhfpaaDoor

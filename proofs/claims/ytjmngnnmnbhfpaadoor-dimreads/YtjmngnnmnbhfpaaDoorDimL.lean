/- From what the program's text lays to what the walks ask: the table of the units' names lies in memory. -/
import Derived.Test.YtjmngnnmnbhfpaaDoorRows
import Derived.Test.YtjmngnnmnbhfpaaDoorDimF
import Derived.Lib.LaidTab
import Derived.OpenShut
import Derived.Stop.LaidErr
import Derived.MakeChecks
import Derived.ChangeSame
namespace Go.Proofs.YtjmngnnmnbhfpaaDoor
open Go.RowKit Go.ChangeShapes

def rowD (r : List UInt8 × U5) : DataW Unit := .agg [.lit (.string r.1), .agg [.lit (.int .i64 r.2.num), .lit (.int .i64 r.2.den), Lib.tabData .i64 [r.2.dim.a, r.2.dim.b, r.2.dim.c, r.2.dim.d, r.2.dim.e]]]
theorem names_rows : (Rows.laid_capstan_dim_names : DataW Unit) = .agg (tab.map rowD) := by kernel_rfl
theorem c9 : Tryd.prog.cellsOf 9 = 1 := by kernel_rfl
theorem c2 : Tryd.prog.cellsOf 2 = 1 := by kernel_rfl
theorem c3 : Tryd.prog.cellsOf 3 = 1 := by kernel_rfl
theorem c24 : Tryd.prog.cellsOf 24 = 5 := by kernel_rfl
theorem c26 : Tryd.prog.cellsOf 26 = 7 := by kernel_rfl
theorem c104 : Tryd.prog.cellsOf 104 = 8 := by kernel_rfl
theorem c105 : Tryd.prog.cellsOf 105 = 144 := by kernel_rfl

theorem list8 {α : Type} : ∀ (c : List α), c.length = 8 → ∃ v0 v1 v2 v3 v4 v5 v6 v7, c = [v0, v1, v2, v3, v4, v5, v6, v7]
  | [v0, v1, v2, v3, v4, v5, v6, v7], _ => ⟨v0, v1, v2, v3, v4, v5, v6, v7, rfl⟩
theorem list3 {α : Type} : ∀ (c : List α), c.length = 3 → ∃ v0 v1 v2, c = [v0, v1, v2]
  | [v0, v1, v2], _ => ⟨v0, v1, v2, rfl⟩
set_option maxRecDepth 10000 in
theorem row_cells {enc : TypeId × Value → Unit} {w : World} {base : Nat} {sp : Nat → Bool} {held : Bool} {fuel : Nat} {c : List Value} {p : List MemPlace} (r : List UInt8 × U5)
    (h : DataW.trod enc Tryd.prog w base sp held fuel 104 c = some (rowD r, p)) : c = rowCells r := by
  obtain ⟨y0, y1, n, hx, hl, h0, h1⟩ := trod_struct2 Tryd.underlying104 h
  rw [c104] at hl
  obtain ⟨v0, v1, v2, v3, v4, v5, v6, v7, rfl⟩ := list8 c hl
  simp only [c9, c26, List.drop_zero, List.take_succ_cons, List.take_zero, List.drop_succ_cons] at h0 h1
  obtain ⟨s, e0, rfl, _⟩ := DataW.trod_string Tryd.underlying9 h0
  obtain ⟨xs, m, rfl, hx1, _, hlen, hf⟩ := DataW.trod_struct Tryd.underlying26 h1
  obtain ⟨z0, z1, z2, rfl⟩ := list3 xs hlen
  have f0 : DataW.trod enc Tryd.prog w base sp held m 2 (([v1, v2, v3, v4, v5, v6, v7].drop 0).take (Tryd.prog.cellsOf 2)) = [z0, z1, z2][0]? := hf 0 _ rfl
  have f1 : DataW.trod enc Tryd.prog w base sp held m 2 (([v1, v2, v3, v4, v5, v6, v7].drop 1).take (Tryd.prog.cellsOf 2)) = [z0, z1, z2][1]? := hf 1 _ rfl
  have f2 : DataW.trod enc Tryd.prog w base sp held m 24 (([v1, v2, v3, v4, v5, v6, v7].drop 2).take (Tryd.prog.cellsOf 24)) = [z0, z1, z2][2]? := hf 2 _ rfl
  simp only [c2, c24, List.drop_zero, List.take_succ_cons, List.take_zero, List.drop_succ_cons, List.getElem?_cons_zero, List.getElem?_cons_succ] at f0 f1 f2
  obtain ⟨a, ea, rfl, _⟩ := DataW.trod_int Tryd.underlying2 f0
  obtain ⟨b, eb, rfl, _⟩ := DataW.trod_int Tryd.underlying2 f1
  subst hx1
  simp only [rowD, List.map_cons, List.map_nil, Prod.mk.injEq, DataW.agg.injEq, List.cons.injEq, DataW.lit.injEq, Lit.string.injEq, Lit.int.injEq, true_and, and_true] at hx
  obtain ⟨⟨q0, q1, q2, q3⟩, _⟩ := hx
  obtain ⟨z2a, z2b⟩ := z2
  simp only at q3
  subst q3
  have e2 := Lib.cells_of_tab Tryd.underlying24 Tryd.underlying3 c3 c24 f2
  simp only [List.map_cons, List.map_nil, List.cons.injEq, and_true] at e0 ea eb e2
  obtain ⟨e3, e4, e5, e6, e7⟩ := e2
  have es : s = ⟨r.1.toArray⟩ := by rw [q0]
  unfold rowCells
  rw [e0, ea, eb, e3, e4, e5, e6, e7, q1, q2, es]

theorem chunk_eq {α : Type} (a b : List α) (ha : a.length = 144) (hb : b.length = 144) (h : ∀ i, i < 18 → (a.drop (i * 8)).take 8 = (b.drop (i * 8)).take 8) : a = b := by
  apply List.ext_getElem?
  intro j
  by_cases hj : j < 144
  · have e := congrArg (fun l => l[j % 8]?) (h (j / 8) (by omega))
    simp only [List.getElem?_take, List.getElem?_drop] at e
    rw [if_pos (by omega), if_pos (by omega), show j / 8 * 8 + j % 8 = j by omega] at e
    exact e
  · rw [List.getElem?_eq_none (by omega), List.getElem?_eq_none (by omega)]
theorem tab_chunk (i : Nat) (h : i < 18) : (tabCells.drop (i * 8)).take 8 = rowCells (tab.getD i ([], unit0)) := by
  rcases (show i = 0 ∨ i = 1 ∨ i = 2 ∨ i = 3 ∨ i = 4 ∨ i = 5 ∨ i = 6 ∨ i = 7 ∨ i = 8 ∨ i = 9 ∨ i = 10 ∨ i = 11 ∨ i = 12 ∨ i = 13 ∨ i = 14 ∨ i = 15 ∨ i = 16 ∨ i = 17 by omega) with rfl | rfl | rfl | rfl | rfl | rfl | rfl | rfl | rfl | rfl | rfl | rfl | rfl | rfl | rfl | rfl | rfl | rfl
  all_goals rfl
theorem tab_length : tabCells.length = 144 := by rfl
theorem gNames : Tryd.prog.globalNamed "capstan/dim.names" = some 1 := by kernel_rfl
theorem tNames : (Tryd.prog.globals[1]?).map (·.type) = some 105 := by kernel_rfl
set_option maxRecDepth 10000 in
theorem names_of_head {W : World} {rest : List (String × DataW Unit)} (h : laidMet Tryd.prog (("capstan/dim.names", Rows.laid_capstan_dim_names) :: rest) W) : NamesAt W := by
  obtain ⟨ps, ⟨g', t', cs, fuel, p, q, hg', ht', hvar, hd, _, _⟩, _⟩ := h
  obtain rfl := Option.some.inj (gNames.symm.trans hg')
  obtain rfl := Option.some.inj (tNames.symm.trans ht')
  rw [names_rows] at hd
  obtain ⟨xs, m, rfl, hx, hl, hlen, hel⟩ := DataW.trod_array Tryd.underlying105 hd
  rw [c105] at hl
  have hc : cs.toList = tabCells := by
    refine chunk_eq _ _ hl tab_length fun i hi => ?_
    rw [tab_chunk i hi]
    have e := hel i hi
    rw [c104] at e
    have hxs : tab.map rowD = xs.map (·.1) := by
      have := congrArg Prod.fst hx
      simpa using this
    have hi' : i < tab.length := hi
    have e1 : (xs.map (·.1))[i]? = some (rowD (tab.getD i ([], unit0))) := by
      rw [← hxs, List.getElem?_map, List.getElem?_eq_getElem hi', Option.map_some, List.getD_eq_getElem?_getD, List.getElem?_eq_getElem hi']
      rfl
    rw [List.getElem?_map, Option.map_eq_some_iff] at e1
    obtain ⟨x, hx1, hx2⟩ := e1
    rw [hx1] at e
    obtain ⟨x1, x2⟩ := x
    simp only at hx2
    subst hx2
    exact row_cells _ e
  have hcell := fun i => World.var?_cell hg' hvar i
  refine ⟨fun j v hv => ?_, ?_⟩
  · rw [Nat.zero_add, hcell j, ← Array.getElem?_toList, hc]
    exact hv
  · have h0 : W.cell? ⟨1, 0, none⟩ = some (.string ⟨#[111, 110, 101]⟩) := by rw [hcell 0, ← Array.getElem?_toList, hc]; rfl
    exact World.block_lt_of_cell? _ _ h0
end Go.Proofs.YtjmngnnmnbhfpaaDoor

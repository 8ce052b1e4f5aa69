/- Package verify: the table. -/
import Derived.Test.YthfnjlfhaibbeaaDoorVeA
import Derived.Deep.MidRow
namespace Go.Proofs.YthfnjlfhaibbeaaDoor
open Go.RowKit

/-- A row of the table: first, last, arg, needs, leads, next, target. -/
structure Rw where
  f : Int
  l : Int
  a : Int
  n1 : Int
  n2 : Int
  d : Int
  x1 : Int
  x2 : Int
  t1 : Int
  t2 : Int
def rwT : List Rw := [⟨1, 1, 1, 0, 0, 0, 1, 0, 0, 0⟩, ⟨2, 2, 0, 0, 0, 0, 1, 0, 0, 0⟩, ⟨3, 3, 3, 0, 0, 0, 1, 0, 0, 0⟩, ⟨4, 4, 4, 0, 0, 0, 1, 0, 0, 0⟩, ⟨5, 5, 5, 0, 0, 0, 1, 0, 0, 0⟩, ⟨6, 10, 0, 1, 0, 0, 0, 0, 0, 0⟩, ⟨11, 11, 2, 1, 0, 0, 0, 0, 0, 0⟩, ⟨12, 22, 0, 2, 0, 0, -1, 0, 0, 0⟩, ⟨23, 23, 6, 0, 0, 1, 0, 0, 0, 0⟩, ⟨24, 24, 6, 1, 0, 2, -1, 0, -1, 0⟩, ⟨25, 25, 6, 0, 0, 2, 0, 1, 0, 0⟩, ⟨26, 26, 6, 0, 1, 1, 0, 0, 0, -1⟩, ⟨27, 27, 8, 0, 0, 2, 0, 0, 1, 0⟩, ⟨28, 28, 7, 1, 0, 0, 0, 0, 0, 0⟩, ⟨29, 29, 0, 0, 0, 3, 0, 0, 0, 0⟩, ⟨30, 31, 0, 1, 0, 3, 0, 0, 0, 0⟩, ⟨32, 32, 0, 1, 0, 0, 1, 0, 0, 0⟩, ⟨33, 33, 0, 1, 0, 0, -1, 0, 0, 0⟩]
def rw0 : Rw := ⟨0, 0, 0, 0, 0, 0, 0, 0, 0, 0⟩
abbrev rwL (r : Rw) : List Value := [.int .i64 r.f, .int .i64 r.l, .int .i64 r.a, .int .i64 r.n1, .int .i64 r.n2, .int .i64 r.d, .int .i64 r.x1, .int .i64 r.x2, .int .i64 r.t1, .int .i64 r.t2]
abbrev rwV (r : Rw) : Value := .agg (rwL r).toArray
def tabCells : List Value := (rwT.map rwL).flatten
/-- The table lies where the program's text lays it. -/
structure TabAt (w : World) : Prop where
  at' : w.rangeAt 1 0 tabCells
  lt : 1 < w.heap.size
theorem TabAt.next {w w' : World} (h : TabAt w) (k : Below w.heap.size w w') : TabAt w' := ⟨fun j v hv => (k.cell (p := ⟨1, 0 + j, none⟩) h.lt).trans (h.at' j v hv), Nat.lt_of_lt_of_le h.lt k.size⟩
theorem idx_tab (k : Nat) (h : k < 18) (w : World) : (Instr.index 130 (.agg tabCells.toArray) (.int .i64 k)).run Tryd.prog w = .ok (rwV (rwT.getD k rw0)) w := by
  rcases (show k = 0 ∨ k = 1 ∨ k = 2 ∨ k = 3 ∨ k = 4 ∨ k = 5 ∨ k = 6 ∨ k = 7 ∨ k = 8 ∨ k = 9 ∨ k = 10 ∨ k = 11 ∨ k = 12 ∨ k = 13 ∨ k = 14 ∨ k = 15 ∨ k = 16 ∨ k = 17 by omega) with rfl | rfl | rfl | rfl | rfl | rfl | rfl | rfl | rfl | rfl | rfl | rfl | rfl | rfl | rfl | rfl | rfl | rfl <;> kernel_rfl
theorem bel_on {w a b : World} (h : Below w.heap.size w a) (k : Below a.heap.size a b) : Below w.heap.size w b := cbelow_on h k h.size
def rowFit (op : Int) (r : Rw) : Bool := decide (r.f ≤ op) && decide (op ≤ r.l)
def rowF (op : Int) : Option Rw := rwT.find? (rowFit op)
/-- Ten cells of a block written over. -/
abbrev ch10 (w : World) (g : Nat) (x0 x1 x2 x3 x4 x5 x6 x7 x8 x9 : Value) : World := (((((((((w.setCell ⟨g, 0, none⟩ x0).setCell ⟨g, 1, none⟩ x1).setCell ⟨g, 2, none⟩ x2).setCell ⟨g, 3, none⟩ x3).setCell ⟨g, 4, none⟩ x4).setCell ⟨g, 5, none⟩ x5).setCell ⟨g, 6, none⟩ x6).setCell ⟨g, 7, none⟩ x7).setCell ⟨g, 8, none⟩ x8).setCell ⟨g, 9, none⟩ x9
theorem ch10_ok {w : World} {g : Nat} {y0 y1 y2 y3 y4 y5 y6 y7 y8 y9 x0 x1 x2 x3 x4 x5 x6 x7 x8 x9 : Value} (h : Box w g [y0, y1, y2, y3, y4, y5, y6, y7, y8, y9]) : Box (ch10 w g x0 x1 x2 x3 x4 x5 x6 x7 x8 x9) g [x0, x1, x2, x3, x4, x5, x6, x7, x8, x9] ∧ Turn [g] w (ch10 w g x0 x1 x2 x3 x4 x5 x6 x7 x8 x9) :=
  ⟨((((((((((h.set 0 (by simp) x0).set 1 (by simp) x1).set 2 (by simp) x2).set 3 (by simp) x3).set 4 (by simp) x4).set 5 (by simp) x5).set 6 (by simp) x6).set 7 (by simp) x7).set 8 (by simp) x8).set 9 (by simp) x9), (Turn.andSet ((Turn.andSet ((Turn.andSet ((Turn.andSet ((Turn.andSet ((Turn.andSet ((Turn.andSet ((Turn.andSet ((Turn.andSet ((Turn.andSet (Turn.refl [g] w) ⟨g, 0, none⟩ x0 (.inl (by simp)))) ⟨g, 1, none⟩ x1 (.inl (by simp)))) ⟨g, 2, none⟩ x2 (.inl (by simp)))) ⟨g, 3, none⟩ x3 (.inl (by simp)))) ⟨g, 4, none⟩ x4 (.inl (by simp)))) ⟨g, 5, none⟩ x5 (.inl (by simp)))) ⟨g, 6, none⟩ x6 (.inl (by simp)))) ⟨g, 7, none⟩ x7 (.inl (by simp)))) ⟨g, 8, none⟩ x8 (.inl (by simp)))) ⟨g, 9, none⟩ x9 (.inl (by simp)))⟩
/-- What rowOf answers. -/
def roP (q : Option Rw) : Value := match q with
  | some r => .tuple #[rwV r, .bool true]
  | none => .tuple #[rwV rw0, .bool false]
set_option maxHeartbeats 1000000 in
set_option maxRecDepth 20000 in
theorem rowOf_c (op : Int) (w : World) (h : TabAt w) : Calls Tryd.prog 64 #[.int .i64 op] w fun e w' => e = .returned (roP (rowF op)) ∧ Below w.heap.size w w' := by
  obtain ⟨X0, XB⟩ := one_box w 118 (rwL rw0)
  have hr := (h.next XB).at'
  have HX0 := chid X0
  have HXB := chid XB
  have HR : Hid (rowF op = (rwT.drop 0).find? (rowFit op)) := chid rfl
  obtain ⟨rs, hrs⟩ : ∃ rs, Hid (rs = w.heap.size) := ⟨_, chid rfl⟩
  rw [← hrs.out] at HX0
  clear h X0 XB
  go_enter Tryd.func64, Tryd.ntmps64
  go_wp2_with (first | (refine wpList_load_mid rfl 130 _ rfl 1 0 rfl tabCells _ hr Tryd.underlying130 rfl (by kernel_rfl) ?_))
  clear hr
  rw [← hrs.out]
  go_loopw [7] (fun z wr => ∃ k : Nat, z = .int .i64 (k : Nat) ∧ k ≤ 18 ∧ Hid (rowF op = (rwT.drop k).find? (rowFit op)) ∧ Hid (Box wr rs (rwL rw0)) ∧ Hid (Below w.heap.size w wr)) (fun z _ => match z with | .int _ z => ((18 : Int) - z).toNat | _ => 0)
  case atStart => exact ⟨0, rfl, by omega, HR, HX0, HXB⟩
  case round =>
    obtain ⟨k, rfl, hk, HK, HX, HB⟩ := hrel
    clear HR HX0 HXB
    by_cases hlt : k < 18
    · have hlt' : (k : Int) < 18 := by omega
      have hix := idx_tab k hlt
      have hd : rwT.drop k = rwT.getD k rw0 :: rwT.drop (k + 1) := by
        have : k < rwT.length := hlt
        rw [List.drop_eq_getElem_cons this]
        simp [List.getD, this]
      rw [hd, List.find?_cons] at HK
      have HK := HK
      clear hd
      generalize rwT.getD k rw0 = r at *
      obtain ⟨fb, fl⟩ := one_box wr 118 (rwL r)
      have HX1 := chid (HX.out.next fl)
      have HB1 := chid (bel_on HB.out fl)
      have HF := chid fb
      have q0 := fb.cell 0 _ rfl
      have q1 := fb.cell 1 _ rfl
      have q2 := fb.cell 2 _ rfl
      have q3 := fb.cell 3 _ rfl
      have q4 := fb.cell 4 _ rfl
      have q5 := fb.cell 5 _ rfl
      have q6 := fb.cell 6 _ rfl
      have q7 := fb.cell 7 _ rfl
      have q8 := fb.cell 8 _ rfl
      have q9 := fb.cell 9 _ rfl
      clear fb fl HX HB
      by_cases h1 : r.f ≤ op
      · by_cases h2 : op ≤ r.l
        · have hf : rowFit op r = true := by unfold rowFit; simp [h1, h2]
          rw [hf] at HK
          have HQR : Hid (rowF op = some r) := chid HK.out
          have z0 := HX1.out.cell 0 _ rfl
          have zf0 := HX1.out.free 0 (by simp)
          have z1 := HX1.out.cell 1 _ rfl
          have zf1 := HX1.out.free 1 (by simp)
          have z2 := HX1.out.cell 2 _ rfl
          have zf2 := HX1.out.free 2 (by simp)
          have z3 := HX1.out.cell 3 _ rfl
          have zf3 := HX1.out.free 3 (by simp)
          have z4 := HX1.out.cell 4 _ rfl
          have zf4 := HX1.out.free 4 (by simp)
          have z5 := HX1.out.cell 5 _ rfl
          have zf5 := HX1.out.free 5 (by simp)
          have z6 := HX1.out.cell 6 _ rfl
          have zf6 := HX1.out.free 6 (by simp)
          have z7 := HX1.out.cell 7 _ rfl
          have zf7 := HX1.out.free 7 (by simp)
          have z8 := HX1.out.cell 8 _ rfl
          have zf8 := HX1.out.free 8 (by simp)
          have z9 := HX1.out.cell 9 _ rfl
          have zf9 := HX1.out.free 9 (by simp)
          have zl := HX1.out.lt
          have HQ := chid (ch10_ok (x0 := .int .i64 r.f) (x1 := .int .i64 r.l) (x2 := .int .i64 r.a) (x3 := .int .i64 r.n1) (x4 := .int .i64 r.n2) (x5 := .int .i64 r.d) (x6 := .int .i64 r.x1) (x7 := .int .i64 r.x2) (x8 := .int .i64 r.t1) (x9 := .int .i64 r.t2) HX1.out)
          obtain ⟨W', hW'⟩ : ∃ W', Hid (W' = ch10 (wr.alloc (.cells (rwL r).toArray 118)) rs (.int .i64 r.f) (.int .i64 r.l) (.int .i64 r.a) (.int .i64 r.n1) (.int .i64 r.n2) (.int .i64 r.d) (.int .i64 r.x1) (.int .i64 r.x2) (.int .i64 r.t1) (.int .i64 r.t2)) := ⟨_, chid rfl⟩
          rw [← hW'.out] at HQ
          clear HX1 HK
          go_wp2_with fail
          change bodyPost _ _ _ _ _ (ch10 (wr.alloc (.cells (rwL r).toArray 118)) rs (.int .i64 r.f) (.int .i64 r.l) (.int .i64 r.a) (.int .i64 r.n1) (.int .i64 r.n2) (.int .i64 r.d) (.int .i64 r.x1) (.int .i64 r.x2) (.int .i64 r.t1) (.int .i64 r.t2))
          rw [← hW'.out]
          clear z0 zf0 z1 zf1 z2 zf2 z3 zf3 z4 zf4 z5 zf5 z6 zf6 z7 zf7 z8 zf8 z9 zf9 zl
          have c0 := HQ.out.1.cell 0 _ rfl
          have c1 := HQ.out.1.cell 1 _ rfl
          have c2 := HQ.out.1.cell 2 _ rfl
          have c3 := HQ.out.1.cell 3 _ rfl
          have c4 := HQ.out.1.cell 4 _ rfl
          have c5 := HQ.out.1.cell 5 _ rfl
          have c6 := HQ.out.1.cell 6 _ rfl
          have c7 := HQ.out.1.cell 7 _ rfl
          have c8 := HQ.out.1.cell 8 _ rfl
          have c9 := HQ.out.1.cell 9 _ rfl
          have HE : Hid (Below w.heap.size w W') := chid (HB1.out.trans (HQ.out.2.below (by have := hrs.out; simp; omega) HB1.out.size))
          clear HQ
          simp [bodyPost, results, Tryd.results64, go_sem, *]
          rw [HQR.out]; exact ⟨rfl, HE.out⟩
        · have hf : rowFit op r = false := by unfold rowFit; simp [h2]
          rw [hf] at HK
          go_wp2_with fail
          refine ⟨⟨k + 1, by go_num, by omega, HK, HX1, HB1⟩, ?_⟩
          show ((18 : Int) - ((k : Int) + 1)).toNat < ((18 : Int) - (k : Int)).toNat
          omega
      · have hf : rowFit op r = false := by unfold rowFit; simp [h1]
        rw [hf] at HK
        go_wp2_with fail
        refine ⟨⟨k + 1, by go_num, by omega, HK, HX1, HB1⟩, ?_⟩
        show ((18 : Int) - ((k : Int) + 1)).toNat < ((18 : Int) - (k : Int)).toNat
        omega
    · have hlt' : ¬ (k : Int) < 18 := by omega
      obtain rfl : k = 18 := by omega
      have HQR : Hid (rowF op = none) := chid HK.out
      have z0 := HX.out.cell 0 _ rfl
      have zf0 := HX.out.free 0 (by simp)
      have z1 := HX.out.cell 1 _ rfl
      have zf1 := HX.out.free 1 (by simp)
      have z2 := HX.out.cell 2 _ rfl
      have zf2 := HX.out.free 2 (by simp)
      have z3 := HX.out.cell 3 _ rfl
      have zf3 := HX.out.free 3 (by simp)
      have z4 := HX.out.cell 4 _ rfl
      have zf4 := HX.out.free 4 (by simp)
      have z5 := HX.out.cell 5 _ rfl
      have zf5 := HX.out.free 5 (by simp)
      have z6 := HX.out.cell 6 _ rfl
      have zf6 := HX.out.free 6 (by simp)
      have z7 := HX.out.cell 7 _ rfl
      have zf7 := HX.out.free 7 (by simp)
      have z8 := HX.out.cell 8 _ rfl
      have zf8 := HX.out.free 8 (by simp)
      have z9 := HX.out.cell 9 _ rfl
      have zf9 := HX.out.free 9 (by simp)
      have zl := HX.out.lt
      have HQ := chid (ch10_ok (x0 := .int .i64 0) (x1 := .int .i64 0) (x2 := .int .i64 0) (x3 := .int .i64 0) (x4 := .int .i64 0) (x5 := .int .i64 0) (x6 := .int .i64 0) (x7 := .int .i64 0) (x8 := .int .i64 0) (x9 := .int .i64 0) HX.out)
      obtain ⟨W', hW'⟩ : ∃ W', Hid (W' = ch10 wr rs (.int .i64 0) (.int .i64 0) (.int .i64 0) (.int .i64 0) (.int .i64 0) (.int .i64 0) (.int .i64 0) (.int .i64 0) (.int .i64 0) (.int .i64 0)) := ⟨_, chid rfl⟩
      rw [← hW'.out] at HQ
      clear HX HK
      go_wp2_with fail
      change bodyPost _ _ _ _ _ (ch10 wr rs (.int .i64 0) (.int .i64 0) (.int .i64 0) (.int .i64 0) (.int .i64 0) (.int .i64 0) (.int .i64 0) (.int .i64 0) (.int .i64 0) (.int .i64 0))
      rw [← hW'.out]
      clear z0 zf0 z1 zf1 z2 zf2 z3 zf3 z4 zf4 z5 zf5 z6 zf6 z7 zf7 z8 zf8 z9 zf9 zl
      have c0 := HQ.out.1.cell 0 _ rfl
      have c1 := HQ.out.1.cell 1 _ rfl
      have c2 := HQ.out.1.cell 2 _ rfl
      have c3 := HQ.out.1.cell 3 _ rfl
      have c4 := HQ.out.1.cell 4 _ rfl
      have c5 := HQ.out.1.cell 5 _ rfl
      have c6 := HQ.out.1.cell 6 _ rfl
      have c7 := HQ.out.1.cell 7 _ rfl
      have c8 := HQ.out.1.cell 8 _ rfl
      have c9 := HQ.out.1.cell 9 _ rfl
      have HE : Hid (Below w.heap.size w W') := chid (HB.out.trans (HQ.out.2.below (by have := hrs.out; simp; omega) HB.out.size))
      clear HQ
      simp [bodyPost, results, Tryd.results64, go_sem, *]
      rw [HQR.out]; exact ⟨rfl, HE.out⟩
end Go.Proofs.YthfnjlfhaibbeaaDoor

import Derived.Test.YtigldebdljfnbaaDoorNcB
import Derived.Deep.MidRow
import Derived.Test.YtigldebdljfnbaaDoorMhL
import Derived.Test.YtigldebdljfnbaaDoorMgW
namespace Go.Proofs.YtigldebdljfnbaaDoor
open Go.RowKit

structure Rw where
  f : Int
  l : Int
  a : Int
  n1 : Int
  n2 : Int
  d : Int
  x1 : Int
  x2 : Int
  t1 : Int
  t2 : Int
def rwT : List Rw := [⟨1, 1, 1, 0, 0, 0, 1, 0, 0, 0⟩, ⟨2, 2, 0, 0, 0, 0, 1, 0, 0, 0⟩, ⟨3, 3, 3, 0, 0, 0, 1, 0, 0, 0⟩, ⟨4, 4, 4, 0, 0, 0, 1, 0, 0, 0⟩, ⟨5, 5, 5, 0, 0, 0, 1, 0, 0, 0⟩, ⟨6, 10, 0, 1, 0, 0, 0, 0, 0, 0⟩, ⟨11, 11, 2, 1, 0, 0, 0, 0, 0, 0⟩, ⟨12, 22, 0, 2, 0, 0, -1, 0, 0, 0⟩, ⟨23, 23, 6, 0, 0, 1, 0, 0, 0, 0⟩, ⟨24, 24, 6, 1, 0, 2, -1, 0, -1, 0⟩, ⟨25, 25, 6, 0, 0, 2, 0, 1, 0, 0⟩, ⟨26, 26, 6, 0, 1, 1, 0, 0, 0, -1⟩, ⟨27, 27, 8, 0, 0, 2, 0, 0, 1, 0⟩, ⟨28, 28, 7, 1, 0, 0, 0, 0, 0, 0⟩, ⟨29, 29, 0, 0, 0, 3, 0, 0, 0, 0⟩, ⟨30, 31, 0, 1, 0, 3, 0, 0, 0, 0⟩, ⟨32, 32, 0, 1, 0, 0, 1, 0, 0, 0⟩, ⟨33, 33, 0, 1, 0, 0, -1, 0, 0, 0⟩]
def rw0 : Rw := ⟨0, 0, 0, 0, 0, 0, 0, 0, 0, 0⟩
abbrev rwL (r : Rw) : List Value := [.int .i64 r.f, .int .i64 r.l, .int .i64 r.a, .int .i64 r.n1, .int .i64 r.n2, .int .i64 r.d, .int .i64 r.x1, .int .i64 r.x2, .int .i64 r.t1, .int .i64 r.t2]
abbrev rwV (r : Rw) : Value := .agg (rwL r).toArray
def tabCells : List Value := (rwT.map rwL).flatten
structure TabAt (w : World) : Prop where
  at' : w.rangeAt 0 0 tabCells
  lt : 0 < w.heap.size
theorem TabAt.next {w w' : World} (h : TabAt w) (k : Below w.heap.size w w') : TabAt w' := ⟨fun j v hv => (k.cell (p := ⟨0, 0 + j, none⟩) h.lt).trans (h.at' j v hv), Nat.lt_of_lt_of_le h.lt k.size⟩
theorem idx_tab (k : Nat) (h : k < 18) (w : World) : (Instr.index 110 (.agg tabCells.toArray) (.int .i64 k)).run Tryd.prog w = .ok (rwV (rwT.getD k rw0)) w := by
  rcases (show k = 0 ∨ k = 1 ∨ k = 2 ∨ k = 3 ∨ k = 4 ∨ k = 5 ∨ k = 6 ∨ k = 7 ∨ k = 8 ∨ k = 9 ∨ k = 10 ∨ k = 11 ∨ k = 12 ∨ k = 13 ∨ k = 14 ∨ k = 15 ∨ k = 16 ∨ k = 17 by omega) with rfl | rfl | rfl | rfl | rfl | rfl | rfl | rfl | rfl | rfl | rfl | rfl | rfl | rfl | rfl | rfl | rfl | rfl <;> kernel_rfl
theorem bel_on {w a b : World} (h : Below w.heap.size w a) (k : Below a.heap.size a b) : Below w.heap.size w b := cbelow_on h k h.size
def rowFit (op : Int) (r : Rw) : Bool := decide (r.f ≤ op) && decide (op ≤ r.l)
def rowF (op : Int) : Option Rw := rwT.find? (rowFit op)
abbrev ch10 (w : World) (g : Nat) (x0 x1 x2 x3 x4 x5 x6 x7 x8 x9 : Value) : World := (((((((((w.setCell ⟨g, 0, none⟩ x0).setCell ⟨g, 1, none⟩ x1).setCell ⟨g, 2, none⟩ x2).setCell ⟨g, 3, none⟩ x3).setCell ⟨g, 4, none⟩ x4).setCell ⟨g, 5, none⟩ x5).setCell ⟨g, 6, none⟩ x6).setCell ⟨g, 7, none⟩ x7).setCell ⟨g, 8, none⟩ x8).setCell ⟨g, 9, none⟩ x9
theorem ch10_ok {w : World} {g : Nat} {y0 y1 y2 y3 y4 y5 y6 y7 y8 y9 x0 x1 x2 x3 x4 x5 x6 x7 x8 x9 : Value} (h : Box w g [y0, y1, y2, y3, y4, y5, y6, y7, y8, y9]) : Box (ch10 w g x0 x1 x2 x3 x4 x5 x6 x7 x8 x9) g [x0, x1, x2, x3, x4, x5, x6, x7, x8, x9] ∧ Turn [g] w (ch10 w g x0 x1 x2 x3 x4 x5 x6 x7 x8 x9) :=
  ⟨((((((((((h.set 0 (by simp) x0).set 1 (by simp) x1).set 2 (by simp) x2).set 3 (by simp) x3).set 4 (by simp) x4).set 5 (by simp) x5).set 6 (by simp) x6).set 7 (by simp) x7).set 8 (by simp) x8).set 9 (by simp) x9), (Turn.andSet ((Turn.andSet ((Turn.andSet ((Turn.andSet ((Turn.andSet ((Turn.andSet ((Turn.andSet ((Turn.andSet ((Turn.andSet ((Turn.andSet (Turn.refl [g] w) ⟨g, 0, none⟩ x0 (.inl (by simp)))) ⟨g, 1, none⟩ x1 (.inl (by simp)))) ⟨g, 2, none⟩ x2 (.inl (by simp)))) ⟨g, 3, none⟩ x3 (.inl (by simp)))) ⟨g, 4, none⟩ x4 (.inl (by simp)))) ⟨g, 5, none⟩ x5 (.inl (by simp)))) ⟨g, 6, none⟩ x6 (.inl (by simp)))) ⟨g, 7, none⟩ x7 (.inl (by simp)))) ⟨g, 8, none⟩ x8 (.inl (by simp)))) ⟨g, 9, none⟩ x9 (.inl (by simp)))⟩
def roP (q : Option Rw) : Value := match q with
  | some r => .tuple #[rwV r, .bool true]
  | none => .tuple #[rwV rw0, .bool false]
set_option maxHeartbeats 1000000 in
set_option maxRecDepth 20000 in
theorem rowOf_c (op : Int) (w : World) (h : TabAt w) : Calls Tryd.prog 40 #[.int .i64 op] w fun e w' => e = .returned (roP (rowF op)) ∧ Below w.heap.size w w' := by
  obtain ⟨X0, XB⟩ := one_box w 99 (rwL rw0)
  have hr := (h.next XB).at'
  have HX0 := chid X0
  have HXB := chid XB
  have HR : Hid (rowF op = (rwT.drop 0).find? (rowFit op)) := chid rfl
  obtain ⟨rs, hrs⟩ : ∃ rs, Hid (rs = w.heap.size) := ⟨_, chid rfl⟩
  rw [← hrs.out] at HX0
  clear h X0 XB
  go_enter Tryd.func40, Tryd.ntmps40
  go_wp2_with (first | (refine wpList_load_mid rfl 110 _ rfl 0 0 rfl tabCells _ hr Tryd.underlying110 rfl (by kernel_rfl) ?_))
  clear hr
  rw [← hrs.out]
  go_loopw [7] (fun z wr => ∃ k : Nat, z = .int .i64 (k : Nat) ∧ k ≤ 18 ∧ Hid (rowF op = (rwT.drop k).find? (rowFit op)) ∧ Hid (Box wr rs (rwL rw0)) ∧ Hid (Below w.heap.size w wr)) (fun z _ => match z with | .int _ z => ((18 : Int) - z).toNat | _ => 0)
  case atStart => exact ⟨0, rfl, by omega, HR, HX0, HXB⟩
  case round =>
    obtain ⟨k, rfl, hk, HK, HX, HB⟩ := hrel
    clear HR HX0 HXB
    by_cases hlt : k < 18
    · have hlt' : (k : Int) < 18 := by omega
      have hix := idx_tab k hlt
      have hd : rwT.drop k = rwT.getD k rw0 :: rwT.drop (k + 1) := by
        have : k < rwT.length := hlt
        rw [List.drop_eq_getElem_cons this]
        simp [List.getD, this]
      rw [hd, List.find?_cons] at HK
      have HK := HK
      clear hd
      generalize rwT.getD k rw0 = r at *
      obtain ⟨fb, fl⟩ := one_box wr 99 (rwL r)
      have HX1 := chid (HX.out.next fl)
      have HB1 := chid (bel_on HB.out fl)
      have HF := chid fb
      have q0 := fb.cell 0 _ rfl
      have q1 := fb.cell 1 _ rfl
      have q2 := fb.cell 2 _ rfl
      have q3 := fb.cell 3 _ rfl
      have q4 := fb.cell 4 _ rfl
      have q5 := fb.cell 5 _ rfl
      have q6 := fb.cell 6 _ rfl
      have q7 := fb.cell 7 _ rfl
      have q8 := fb.cell 8 _ rfl
      have q9 := fb.cell 9 _ rfl
      clear fb fl HX HB
      by_cases h1 : r.f ≤ op
      · by_cases h2 : op ≤ r.l
        · have hf : rowFit op r = true := by unfold rowFit; simp [h1, h2]
          rw [hf] at HK
          have HQR : Hid (rowF op = some r) := chid HK.out
          have z0 := HX1.out.cell 0 _ rfl
          have zf0 := HX1.out.free 0 (by simp)
          have z1 := HX1.out.cell 1 _ rfl
          have zf1 := HX1.out.free 1 (by simp)
          have z2 := HX1.out.cell 2 _ rfl
          have zf2 := HX1.out.free 2 (by simp)
          have z3 := HX1.out.cell 3 _ rfl
          have zf3 := HX1.out.free 3 (by simp)
          have z4 := HX1.out.cell 4 _ rfl
          have zf4 := HX1.out.free 4 (by simp)
          have z5 := HX1.out.cell 5 _ rfl
          have zf5 := HX1.out.free 5 (by simp)
          have z6 := HX1.out.cell 6 _ rfl
          have zf6 := HX1.out.free 6 (by simp)
          have z7 := HX1.out.cell 7 _ rfl
          have zf7 := HX1.out.free 7 (by simp)
          have z8 := HX1.out.cell 8 _ rfl
          have zf8 := HX1.out.free 8 (by simp)
          have z9 := HX1.out.cell 9 _ rfl
          have zf9 := HX1.out.free 9 (by simp)
          have zl := HX1.out.lt
          have HQ := chid (ch10_ok (x0 := .int .i64 r.f) (x1 := .int .i64 r.l) (x2 := .int .i64 r.a) (x3 := .int .i64 r.n1) (x4 := .int .i64 r.n2) (x5 := .int .i64 r.d) (x6 := .int .i64 r.x1) (x7 := .int .i64 r.x2) (x8 := .int .i64 r.t1) (x9 := .int .i64 r.t2) HX1.out)
          obtain ⟨W', hW'⟩ : ∃ W', Hid (W' = ch10 (wr.alloc (.cells (rwL r).toArray 99)) rs (.int .i64 r.f) (.int .i64 r.l) (.int .i64 r.a) (.int .i64 r.n1) (.int .i64 r.n2) (.int .i64 r.d) (.int .i64 r.x1) (.int .i64 r.x2) (.int .i64 r.t1) (.int .i64 r.t2)) := ⟨_, chid rfl⟩
          rw [← hW'.out] at HQ
          clear HX1 HK
          go_wp2_with fail
          change bodyPost _ _ _ _ _ (ch10 (wr.alloc (.cells (rwL r).toArray 99)) rs (.int .i64 r.f) (.int .i64 r.l) (.int .i64 r.a) (.int .i64 r.n1) (.int .i64 r.n2) (.int .i64 r.d) (.int .i64 r.x1) (.int .i64 r.x2) (.int .i64 r.t1) (.int .i64 r.t2))
          rw [← hW'.out]
          clear z0 zf0 z1 zf1 z2 zf2 z3 zf3 z4 zf4 z5 zf5 z6 zf6 z7 zf7 z8 zf8 z9 zf9 zl
          have c0 := HQ.out.1.cell 0 _ rfl
          have c1 := HQ.out.1.cell 1 _ rfl
          have c2 := HQ.out.1.cell 2 _ rfl
          have c3 := HQ.out.1.cell 3 _ rfl
          have c4 := HQ.out.1.cell 4 _ rfl
          have c5 := HQ.out.1.cell 5 _ rfl
          have c6 := HQ.out.1.cell 6 _ rfl
          have c7 := HQ.out.1.cell 7 _ rfl
          have c8 := HQ.out.1.cell 8 _ rfl
          have c9 := HQ.out.1.cell 9 _ rfl
          have HE : Hid (Below w.heap.size w W') := chid (HB1.out.trans (HQ.out.2.below (by have := hrs.out; simp; omega) HB1.out.size))
          clear HQ
          simp [bodyPost, results, Tryd.results40, go_sem, *]
          rw [HQR.out]; exact ⟨rfl, HE.out⟩
        · have hf : rowFit op r = false := by unfold rowFit; simp [h2]
          rw [hf] at HK
          go_wp2_with fail
          refine ⟨⟨k + 1, by go_num, by omega, HK, HX1, HB1⟩, ?_⟩
          show ((18 : Int) - ((k : Int) + 1)).toNat < ((18 : Int) - (k : Int)).toNat
          omega
      · have hf : rowFit op r = false := by unfold rowFit; simp [h1]
        rw [hf] at HK
        go_wp2_with fail
        refine ⟨⟨k + 1, by go_num, by omega, HK, HX1, HB1⟩, ?_⟩
        show ((18 : Int) - ((k : Int) + 1)).toNat < ((18 : Int) - (k : Int)).toNat
        omega
    · have hlt' : ¬ (k : Int) < 18 := by omega
      obtain rfl : k = 18 := by omega
      have HQR : Hid (rowF op = none) := chid HK.out
      have z0 := HX.out.cell 0 _ rfl
      have zf0 := HX.out.free 0 (by simp)
      have z1 := HX.out.cell 1 _ rfl
      have zf1 := HX.out.free 1 (by simp)
      have z2 := HX.out.cell 2 _ rfl
      have zf2 := HX.out.free 2 (by simp)
      have z3 := HX.out.cell 3 _ rfl
      have zf3 := HX.out.free 3 (by simp)
      have z4 := HX.out.cell 4 _ rfl
      have zf4 := HX.out.free 4 (by simp)
      have z5 := HX.out.cell 5 _ rfl
      have zf5 := HX.out.free 5 (by simp)
      have z6 := HX.out.cell 6 _ rfl
      have zf6 := HX.out.free 6 (by simp)
      have z7 := HX.out.cell 7 _ rfl
      have zf7 := HX.out.free 7 (by simp)
      have z8 := HX.out.cell 8 _ rfl
      have zf8 := HX.out.free 8 (by simp)
      have z9 := HX.out.cell 9 _ rfl
      have zf9 := HX.out.free 9 (by simp)
      have zl := HX.out.lt
      have HQ := chid (ch10_ok (x0 := .int .i64 0) (x1 := .int .i64 0) (x2 := .int .i64 0) (x3 := .int .i64 0) (x4 := .int .i64 0) (x5 := .int .i64 0) (x6 := .int .i64 0) (x7 := .int .i64 0) (x8 := .int .i64 0) (x9 := .int .i64 0) HX.out)
      obtain ⟨W', hW'⟩ : ∃ W', Hid (W' = ch10 wr rs (.int .i64 0) (.int .i64 0) (.int .i64 0) (.int .i64 0) (.int .i64 0) (.int .i64 0) (.int .i64 0) (.int .i64 0) (.int .i64 0) (.int .i64 0)) := ⟨_, chid rfl⟩
      rw [← hW'.out] at HQ
      clear HX HK
      go_wp2_with fail
      change bodyPost _ _ _ _ _ (ch10 wr rs (.int .i64 0) (.int .i64 0) (.int .i64 0) (.int .i64 0) (.int .i64 0) (.int .i64 0) (.int .i64 0) (.int .i64 0) (.int .i64 0) (.int .i64 0))
      rw [← hW'.out]
      clear z0 zf0 z1 zf1 z2 zf2 z3 zf3 z4 zf4 z5 zf5 z6 zf6 z7 zf7 z8 zf8 z9 zf9 zl
      have c0 := HQ.out.1.cell 0 _ rfl
      have c1 := HQ.out.1.cell 1 _ rfl
      have c2 := HQ.out.1.cell 2 _ rfl
      have c3 := HQ.out.1.cell 3 _ rfl
      have c4 := HQ.out.1.cell 4 _ rfl
      have c5 := HQ.out.1.cell 5 _ rfl
      have c6 := HQ.out.1.cell 6 _ rfl
      have c7 := HQ.out.1.cell 7 _ rfl
      have c8 := HQ.out.1.cell 8 _ rfl
      have c9 := HQ.out.1.cell 9 _ rfl
      have HE : Hid (Below w.heap.size w W') := chid (HB.out.trans (HQ.out.2.below (by have := hrs.out; simp; omega) HB.out.size))
      clear HQ
      simp [bodyPost, results, Tryd.results40, go_sem, *]
      rw [HQR.out]; exact ⟨rfl, HE.out⟩

def leadsB (n i a : Int) : Bool := decide (i < a) && belowB a n
def mayF (g : PgP) (n arg i a : Int) : Bool :=
  if arg = 1 then belowB a g.K.length
  else if arg = 2 then belowB a ((g.K.length : Int) - 1) && (decide (0 ≤ g.K.getD a.toNat 0) && decide (1 ≤ g.K.getD (a + 1).toNat 0))
  else if arg = 3 then belowB a g.wins.length
  else if arg = 4 then belowB a g.crons.length
  else if arg = 5 then decide (1 ≤ a) && decide (a ≤ 3)
  else if arg = 6 then leadsB n i a
  else if arg = 7 then belowB a g.loc
  else if arg = 8 then belowB (a.tdiv 16384) g.loc && leadsB n i (a.tmod 16384)
  else decide (a = 0)
def suitB (r : Rw) (h t : Int) : Bool := if r.d = 3 then decide (h = r.n1) && decide (t = r.n2) else decide (r.n1 ≤ h) && decide (r.n2 ≤ t)
def waysR (r : Rw) (i a h t : Int) : List Wy :=
  if r.d = 0 then [(i + 1, h + r.x1, t + r.x2)]
  else if r.d = 1 then [(a.tmod 16384, h + r.t1, t + r.t2)]
  else if r.d = 2 then [(a.tmod 16384, h + r.t1, t + r.t2), (i + 1, h + r.x1, t + r.x2)]
  else []
def leadR (hm : Int) (pl : List (Option St)) (x : Wy) : Option (List (Option St)) :=
  if (pl.length : Int) ≤ x.1 ∨ hm < x.2.1 ∨ 4096 < x.2.2 then none
  else match pl.getD x.1.toNat none with
    | none => some (pl.set x.1.toNat (some x.2))
    | some s => if s = x.2 then some (pl.set x.1.toNat (some x.2)) else none
def leadsR (hm : Int) : List Wy → List (Option St) → Option (List (Option St))
  | [], pl => some pl
  | x :: l, pl => (leadR hm pl x).bind (leadsR hm l)
def stepR (g : PgP) (i : Nat) (pl : List (Option St)) : Option (List (Option St)) :=
  match pl.getD i none with
  | none => none
  | some s =>
    let x := g.C.getD i in0
    match rowF x.1 with
    | none => none
    | some r => if mayF g pl.length r.a i x.2 && suitB r s.1 s.2 then leadsR g.h (waysR r i x.2 s.1 s.2) pl else none
theorem leadR_eq {hm i : Int} {pl : List (Option St)} {x : Wy} (h1 : i < x.1) (h2 : x.2.2 ≤ 4096) : leadR hm pl x = goF hm i pl x := by
  unfold leadR goF
  by_cases c : (pl.length : Int) ≤ x.1 ∨ hm < x.2.1
  · rw [if_pos (by omega), if_pos (by omega)]
  · rw [if_neg (by omega), if_neg (by omega)]
    cases e : pl.getD x.1.toNat none with
    | none => rfl
    | some s =>
      simp only
      by_cases es : s = x.2
      · rw [if_pos es, if_pos es]
        subst es
        congr 1
        have := at_of_getD e
        obtain ⟨hl, h3⟩ := List.getElem?_eq_some_iff.1 this
        rw [← h3]
        exact List.set_getElem_self hl
      · rw [if_neg es, if_neg es]
theorem leadsR_eq {hm i : Int} : ∀ (l : List Wy) (pl : List (Option St)), (∀ x, x ∈ l → i < x.1 ∧ x.2.2 ≤ 4096) → leadsR hm l pl = goesF hm i l pl
  | [], pl, _ => rfl
  | x :: l, pl, h => by
    unfold leadsR goesF
    rw [leadR_eq (h x (by simp)).1 (h x (by simp)).2]
    congr 1
    funext p
    exact leadsR_eq l p (fun y hy => h y (by simp [hy]))
theorem goF_far {hm i : Int} {pl : List (Option St)} {x : Wy} (h : leadsB pl.length i x.1 = false) (hi : 0 ≤ i) : goF hm i pl x = none := by
  unfold goF
  unfold leadsB belowB at h
  simp only [Bool.and_eq_false_iff, decide_eq_false_iff_not] at h
  rw [if_pos (by omega)]
theorem ops_of {op : Int} (h1 : 1 ≤ op) (h2 : op ≤ 33) : op = 1 ∨ op = 2 ∨ op = 3 ∨ op = 4 ∨ op = 5 ∨ op = 6 ∨ op = 7 ∨ op = 8 ∨ op = 9 ∨ op = 10 ∨ op = 11 ∨ op = 12 ∨ op = 13 ∨ op = 14 ∨ op = 15 ∨ op = 16 ∨ op = 17 ∨ op = 18 ∨ op = 19 ∨ op = 20 ∨ op = 21 ∨ op = 22 ∨ op = 23 ∨ op = 24 ∨ op = 25 ∨ op = 26 ∨ op = 27 ∨ op = 28 ∨ op = 29 ∨ op = 30 ∨ op = 31 ∨ op = 32 ∨ op = 33 := by omega
theorem rowF_out {op : Int} (h : op < 1 ∨ 33 < op) : rowF op = none := by
  unfold rowF
  rw [List.find?_eq_none]
  intro r hr
  unfold rowFit
  simp only [rwT, List.mem_cons, List.not_mem_nil, or_false] at hr
  rcases hr with rfl | rfl | rfl | rfl | rfl | rfl | rfl | rfl | rfl | rfl | rfl | rfl | rfl | rfl | rfl | rfl | rfl | rfl <;> simp <;> omega
def PlainOp (op : Int) : Prop := ∃ r, rowF op = some r ∧ (∀ (g : PgP) (n i a : Int), mayF g n r.a i a = argF g op a) ∧ ∀ (i a h t : Int), 0 ≤ h → 0 ≤ t → suitB r h t = (waysF i op a h t).2 ∧ (suitB r h t = true → waysR r i a h t = (waysF i op a h t).1 ∧ ∀ x, x ∈ waysR r i a h t → i < x.1 ∧ x.2.2 ≤ t)
theorem plain_ops {op : Int} (h1 : 1 ≤ op) (h2 : op ≤ 33) (h3 : op ≠ 23) (h4 : op ≠ 24) (h5 : op ≠ 25) (h6 : op ≠ 26) (h7 : op ≠ 27) : PlainOp op := by
  rcases ops_of h1 h2 with rfl | rfl | rfl | rfl | rfl | rfl | rfl | rfl | rfl | rfl | rfl | rfl | rfl | rfl | rfl | rfl | rfl | rfl | rfl | rfl | rfl | rfl | rfl | rfl | rfl | rfl | rfl | rfl | rfl | rfl | rfl | rfl | rfl
  all_goals first
    | (exfalso; omega)
    | (refine ⟨_, rfl, ?_, ?_⟩
       · intro g n i a
         simp [mayF, argF]
       · intro i a h t hh ht
         by_cases c0 : h < 1
         · obtain rfl : h = 0 := by omega
           simp [suitB, waysF, needF, waysR, ht] <;> omega
         · by_cases c1 : h < 2
           · obtain rfl : h = 1 := by omega
             simp [suitB, waysF, needF, waysR, ht] <;> omega
           · have c2 : 2 ≤ h := by omega
             have c3 : 1 ≤ h := by omega
             have c4 : ¬ h = 0 := by omega
             have c5 : ¬ h = 1 := by omega
             have c6 : ¬ h < 0 := by omega
             simp [suitB, waysF, needF, waysR, ht, hh, c0, c1, c2, c3, c4, c5, c6] <;> omega)

theorem leadsB_yes {n i a : Int} (h : leadsB n i a = true) : i < a ∧ 0 ≤ a ∧ a < n := by
  unfold leadsB belowB at h
  simp at h
  omega
theorem step_eq {g : PgP} {i : Nat} {pl : List (Option St)} (hp : PIn g pl) (hn : pl.length ≤ 16384) : stepR g i pl = stepF g i pl := by
  unfold stepR stepF
  cases e : pl.getD i none with
  | none => rfl
  | some s =>
    have hs := hp i s (at_of_getD e)
    obtain ⟨h, t⟩ := s
    simp only at hs ⊢
    generalize g.C.getD i in0 = x
    obtain ⟨op, a⟩ := x
    simp only
    have hi0 : (0 : Int) ≤ (i : Int) := Int.natCast_nonneg _
    by_cases ho : op < 1 ∨ 33 < op
    · rw [rowF_out ho]
      have hq : (waysF i op a h t).2 = false := by
        unfold waysF needF
        rw [if_pos ho, if_pos (by omega)]
      rw [hq]
      rfl
    · by_cases ht : op = 23 ∨ op = 24 ∨ op = 25 ∨ op = 26 ∨ op = 27
      · cases hl : leadsB pl.length i (if op = 27 then a.tmod 16384 else a) with
        | false =>
          have hfar : ∀ (h' t' : Int) (l : List Wy), goesF g.h i ((if op = 27 then a.tmod 16384 else a, h', t') :: l) pl = none := fun h' t' l => by
            unfold goesF
            rw [goF_far hl hi0]
            rfl
          rcases ht with rfl | rfl | rfl | rfl | rfl
          · have h1 : rowF 23 = some ⟨23, 23, 6, 0, 0, 1, 0, 0, 0, 0⟩ := rfl
            have h2 := hfar h t []
            simp only [h1]
            simp at hl h2
            by_cases c : h < 0
            · omega
            · simp [mayF, hl, argF, waysF, needF, h2, c]
          · have h1 : rowF 24 = some ⟨24, 24, 6, 1, 0, 2, -1, 0, -1, 0⟩ := rfl
            have h2 := hfar (h - 1) t [((i : Int) + 1, h - 1, t)]
            simp only [h1]
            simp at hl h2
            by_cases c : h < 1
            · simp [mayF, hl, argF, waysF, needF, c]
            · simp [mayF, hl, argF, waysF, needF, h2, c]
          · have h1 : rowF 25 = some ⟨25, 25, 6, 0, 0, 2, 0, 1, 0, 0⟩ := rfl
            have h2 := hfar h t [((i : Int) + 1, h, t + 1)]
            simp only [h1]
            simp at hl h2
            by_cases c : h < 0
            · omega
            · simp [mayF, hl, argF, waysF, needF, h2, c]
          · have h1 : rowF 26 = some ⟨26, 26, 6, 0, 1, 1, 0, 0, 0, -1⟩ := rfl
            have h2 := hfar h (t - 1) []
            simp only [h1]
            simp at hl h2
            by_cases c : h < 0
            · omega
            · simp [mayF, hl, argF, waysF, needF, h2, c]
          · have h1 : rowF 27 = some ⟨27, 27, 8, 0, 0, 2, 0, 0, 1, 0⟩ := rfl
            have h2 := hfar (h + 1) t [((i : Int) + 1, h, t)]
            simp only [h1]
            simp at hl h2
            by_cases c : h < 0
            · omega
            · simp [mayF, hl, argF, waysF, needF, h2, c]
        | true =>
          obtain ⟨l1, l2, l3⟩ := leadsB_yes hl
          have hm : ¬ op = 27 → a.tmod 16384 = a := fun h7 => by
            rw [if_neg h7] at l2 l3
            exact Int.tmod_eq_of_lt l2 (by omega)
          rcases ht with rfl | rfl | rfl | rfl | rfl
          · have h1 : rowF 23 = some ⟨23, 23, 6, 0, 0, 1, 0, 0, 0, 0⟩ := rfl
            have h2 := hm (by omega)
            simp only [h1]
            simp at hl l1 l2 l3
            have c : ¬ h < 0 := by omega
            have h3 := leadsR_eq (hm := g.h) (i := i) [(a, h, t)] pl (by simp; omega)
            simp [mayF, hl, argF, waysF, needF, c, suitB, waysR, h2, hs, h3]
          · have h1 : rowF 24 = some ⟨24, 24, 6, 1, 0, 2, -1, 0, -1, 0⟩ := rfl
            have h2 := hm (by omega)
            simp only [h1]
            simp at hl l1 l2 l3
            have h3 := leadsR_eq (hm := g.h) (i := i) [(a, h - 1, t), ((i : Int) + 1, h - 1, t)] pl (by simp; omega)
            have e1 : h + -1 = h - 1 := by omega
            by_cases c : h < 1
            · have c2 : ¬ 1 ≤ h := by omega
              simp [mayF, hl, argF, waysF, needF, c, suitB, c2]
            · have c2 : 1 ≤ h := by omega
              simp [mayF, hl, argF, waysF, needF, c, suitB, waysR, h2, hs, h3, c2, e1]
          · have h1 : rowF 25 = some ⟨25, 25, 6, 0, 0, 2, 0, 1, 0, 0⟩ := rfl
            have h2 := hm (by omega)
            simp only [h1]
            simp at hl l1 l2 l3
            have c : ¬ h < 0 := by omega
            by_cases c4 : t < 4096
            · have h3 := leadsR_eq (hm := g.h) (i := i) [(a, h, t), ((i : Int) + 1, h, t + 1)] pl (by simp; omega)
              simp [mayF, hl, argF, waysF, needF, c, suitB, waysR, h2, hs, h3, c4]
            · have h3 : leadsR g.h [(a, h, t), ((i : Int) + 1, h, t + 1)] pl = none := by
                unfold leadsR
                cases leadR g.h pl (a, h, t) with
                | none => rfl
                | some p =>
                  show leadsR g.h [((i : Int) + 1, h, t + 1)] p = none
                  unfold leadsR leadR
                  rw [if_pos (by simp only; omega)]
                  rfl
              simp [mayF, hl, argF, waysF, needF, c, suitB, waysR, h2, hs, h3, c4]
          · have h1 : rowF 26 = some ⟨26, 26, 6, 0, 1, 1, 0, 0, 0, -1⟩ := rfl
            have h2 := hm (by omega)
            simp only [h1]
            simp at hl l1 l2 l3
            have c : ¬ h < 0 := by omega
            have h3 := leadsR_eq (hm := g.h) (i := i) [(a, h, t - 1)] pl (by simp; omega)
            have e1 : t + -1 = t - 1 := by omega
            by_cases c4 : 0 < t
            · have c5 : 1 ≤ t := by omega
              simp [mayF, hl, argF, waysF, needF, c, suitB, waysR, h2, hs, h3, c4, c5, e1]
            · have c5 : ¬ 1 ≤ t := by omega
              simp [mayF, hl, argF, waysF, needF, c, suitB, c4, c5]
          · have h1 : rowF 27 = some ⟨27, 27, 8, 0, 0, 2, 0, 0, 1, 0⟩ := rfl
            simp only [h1]
            simp at hl l1 l2 l3
            have c : ¬ h < 0 := by omega
            have a0 : 0 ≤ a := by
              by_cases ha : 0 ≤ a
              · exact ha
              · have q1 := Int.neg_tmod (-a) 16384
                rw [Int.neg_neg] at q1
                have q2 := Int.tmod_nonneg 16384 (show 0 ≤ -a by omega)
                omega
            have d0 : 0 ≤ a.tdiv 16384 := Int.tdiv_nonneg a0 (by omega)
            have h3 := leadsR_eq (hm := g.h) (i := i) [(a.tmod 16384, h + 1, t), ((i : Int) + 1, h, t)] pl (by simp; omega)
            simp [mayF, hl, argF, waysF, needF, c, suitB, waysR, hs, h3, belowB, a0, d0]
      · obtain ⟨r, h1, h2, h3⟩ := plain_ops (op := op) (by omega) (by omega) (by omega) (by omega) (by omega) (by omega) (by omega)
        rw [h1]
        simp only
        obtain ⟨h4, h5⟩ := h3 i a h t hs.1 hs.2.2.1
        rw [h2 g pl.length i a, ← h4]
        cases ha : argF g op a with
        | false => simp
        | true =>
          cases hu : suitB r h t with
          | false => simp
          | true =>
            obtain ⟨h6, h7⟩ := h5 hu
            simp only [Bool.and_true, if_true]
            rw [← h6]
            exact leadsR_eq _ _ (fun x hx => ⟨(h7 x hx).1, Int.le_trans (h7 x hx).2 hs.2.2.2⟩)


theorem bel_to {w a b : World} (h : Below w.heap.size w a) (k : Below a.heap.size a b) : Below w.heap.size w b := cbelow_on h k h.size
set_option maxRecDepth 20000 in
theorem vew_c (g : PgP) (u : PgV) (w : World) (h : PgRd w g u) : Calls Tryd.prog 37 #[pgV g u] w fun e w' => e = .returned (.bool (vewB g)) ∧ Below w.heap.size w w' := by
  obtain ⟨a1, c1, e1, -⟩ := RowsK.shape h.k
  obtain ⟨a2, c2, e2, -⟩ := RowsK.shape h.wi
  obtain ⟨a3, c3, e3, -⟩ := RowsK.shape h.cr
  obtain ⟨a4, c4, e4, -⟩ := RowsK.shape h.c
  obtain ⟨uk, uw, ur, uc⟩ := u
  simp only at e1 e2 e3 e4
  subst e1 e2 e3 e4
  clear h
  unfold vewB
  generalize g.K.length = n1
  generalize g.wins.length = n2
  generalize g.crons.length = n3
  generalize g.C.length = n4
  by_cases h1 : (n1 : Int) ≤ 16384
  · skip
    by_cases h2 : (n2 : Int) ≤ 256
    · skip
      by_cases h3 : (n3 : Int) ≤ 256
      · skip
        by_cases h4 : (1 : Int) ≤ (n4 : Int)
        · skip
          by_cases h5 : (n4 : Int) ≤ 16384
          · skip
            have m0 : decide (n1 ≤ 16384) = true := by simp; omega
            have m1 : decide (n2 ≤ 256) = true := by simp; omega
            have m2 : decide (n3 ≤ 256) = true := by simp; omega
            have m3 : decide (1 ≤ n4) = true := by simp; omega
            have m4 : decide (n4 ≤ 16384) = true := by simp; omega
            rw [m0, m1, m2, m3, m4]
            clear m0 m1 m2 m3 m4
            go_enter Tryd.func37, Tryd.ntmps37
            go_wp2_with fail
            go_ret
            exact ⟨rfl, (Below.refl _ _).alloc (Nat.le_refl _) _⟩
          · skip
            have m0 : decide (n1 ≤ 16384) = true := by simp; omega
            have m1 : decide (n2 ≤ 256) = true := by simp; omega
            have m2 : decide (n3 ≤ 256) = true := by simp; omega
            have m3 : decide (1 ≤ n4) = true := by simp; omega
            have m4 : decide (n4 ≤ 16384) = false := by simp; omega
            rw [m0, m1, m2, m3, m4]
            clear m0 m1 m2 m3 m4
            go_enter Tryd.func37, Tryd.ntmps37
            go_wp2_with fail
            go_ret
            exact ⟨rfl, (Below.refl _ _).alloc (Nat.le_refl _) _⟩
        · skip
          have m0 : decide (n1 ≤ 16384) = true := by simp; omega
          have m1 : decide (n2 ≤ 256) = true := by simp; omega
          have m2 : decide (n3 ≤ 256) = true := by simp; omega
          have m3 : decide (1 ≤ n4) = false := by simp; omega
          rw [m0, m1, m2, m3]
          clear m0 m1 m2 m3
          go_enter Tryd.func37, Tryd.ntmps37
          go_wp2_with fail
          go_ret
          exact ⟨rfl, (Below.refl _ _).alloc (Nat.le_refl _) _⟩
      · skip
        have m0 : decide (n1 ≤ 16384) = true := by simp; omega
        have m1 : decide (n2 ≤ 256) = true := by simp; omega
        have m2 : decide (n3 ≤ 256) = false := by simp; omega
        rw [m0, m1, m2]
        clear m0 m1 m2
        go_enter Tryd.func37, Tryd.ntmps37
        go_wp2_with fail
        go_ret
        exact ⟨rfl, (Below.refl _ _).alloc (Nat.le_refl _) _⟩
    · skip
      have m0 : decide (n1 ≤ 16384) = true := by simp; omega
      have m1 : decide (n2 ≤ 256) = false := by simp; omega
      rw [m0, m1]
      clear m0 m1
      go_enter Tryd.func37, Tryd.ntmps37
      go_wp2_with fail
      go_ret
      exact ⟨rfl, (Below.refl _ _).alloc (Nat.le_refl _) _⟩
  · skip
    have m0 : decide (n1 ≤ 16384) = false := by simp; omega
    rw [m0]
    clear m0
    go_enter Tryd.func37, Tryd.ntmps37
    go_wp2_with fail
    go_ret
    exact ⟨rfl, (Below.refl _ _).alloc (Nat.le_refl _) _⟩
set_option maxHeartbeats 1000000 in
set_option maxRecDepth 20000 in
theorem wins_c (ws : List WiP) (m : Int) (v : Value) (w : World) (h : WisAt w v ws) : Calls Tryd.prog 38 #[v, .int .i64 m] w fun e w' => e = .returned (.bool (winsB m ws)) ∧ Below w.heap.size w w' := by
  have H := chid h
  obtain ⟨va, vc, rfl, hc1, hc2⟩ := RowsK.shape h
  clear h
  obtain ⟨N, hN⟩ : ∃ N, Hid (N = ws.length) := ⟨_, chid rfl⟩
  rw [← hN.out]
  rw [← hN.out] at H hc1
  have HS : Hid (winsB m ws = winsB m (ws.drop 0)) := chid rfl
  go_enter Tryd.func38, Tryd.ntmps38
  go_wp2_with fail
  go_loopw [9] (fun z wr => ∃ k : Nat, z = .int .i64 (k : Nat) ∧ k ≤ N ∧ Hid (winsB m ws = winsB m (ws.drop k)) ∧ Hid (Below w.heap.size w wr)) (fun z _ => match z with | .int _ z => ((N : Int) - z).toNat | _ => 0)
  case atStart => exact ⟨0, rfl, by omega, HS, chid (Below.refl _ _)⟩
  case round =>
    obtain ⟨k, rfl, hk, HK, HB⟩ := hrel
    clear HS
    by_cases hlt : k < N
    · have hlt' : (k : Int) < (N : Int) := by omega
      have hkl : k < ws.length := by rw [← hN.out]; exact hlt
      have hrow : WisAt wr (.slice va ws.length vc) ws := by
        have := RowsK.next H.out HB.out
        rw [hN.out] at this
        exact this
      obtain ⟨b, off, cap, hv, -, -, hbl, hx⟩ := RowsK.open hrow (by omega)
      cases hv
      have hgd : ws.getD k wi0 = ws[k] := by simp [List.getD, hkl]
      have y0 := hx k hkl 0 _ rfl
      have y1 := hx k hkl 1 _ rfl
      have y2 := hx k hkl 2 _ rfl
      have y3 := hx k hkl 3 _ rfl
      rw [Nat.add_zero] at y0
      rw [hgd] at y0 y1 y2 y3
      have hd : ws.drop k = ws[k] :: ws.drop (k + 1) := List.drop_eq_getElem_cons hkl
      rw [hd] at HK
      generalize ws[k] = x at *
      clear hx hgd hd hrow
      have HK2 : Hid (winsB m ws = ((rightB x.m x.a x.s x.p && decide (x.m < m)) && winsB m (ws.drop (k + 1)))) := chid HK.out
      obtain ⟨fb, fl⟩ := one_box wr 71 (wiL x)
      have HC := chid (wRight x.m x.a x.s x.p (wr.alloc (.cells (wiL x).toArray 71)))
      have HB1 := chid (bel_to HB.out fl)
      have HFb := chid fb
      clear HK fl
      go_wp2_with fail
      refine Calls.mono HC.out ?_
      rintro e w2 ⟨rfl, b2⟩
      have HB2 := chid (bel_to HB1.out b2)
      have fb := HFb.out.next b2
      have q0 := fb.cell 0 _ rfl
      have q1 := fb.cell 1 _ rfl
      have q2 := fb.cell 2 _ rfl
      have q3 := fb.cell 3 _ rfl
      clear HC HB1 HB fb b2
      cases hr : rightB x.m x.a x.s x.p with
      | false =>
        rw [hr] at HK2
        have HE : Hid (winsB m ws = false) := chid HK2.out
        clear hr
        go_wp2_with fail
        go_ret
        exact ⟨by rw [HE.out]; rfl, HB2.out⟩
      | true =>
        rw [hr] at HK2
        clear hr
        by_cases hm : m ≤ x.m
        · have HE : Hid (winsB m ws = false) := chid (by rw [HK2.out, show decide (x.m < m) = false by simp; omega]; rfl)
          go_wp2_with fail
          go_ret
          exact ⟨by rw [HE.out]; rfl, HB2.out⟩
        · have HE : Hid (winsB m ws = winsB m (ws.drop (k + 1))) := chid (by rw [HK2.out, show decide (x.m < m) = true by simp; omega]; rfl)
          go_wp2_with fail
          refine ⟨⟨k + 1, by go_num, by omega, HE, HB2⟩, ?_⟩
          show ((N : Int) - ((k : Int) + 1)).toNat < ((N : Int) - (k : Int)).toNat
          omega
    · have hlt' : ¬ (k : Int) < (N : Int) := by omega
      obtain rfl : k = N := by omega
      have HE : Hid (winsB m ws = true) := chid (by rw [HK.out, hN.out, List.drop_length]; rfl)
      go_wp2_with fail
      go_ret
      exact ⟨by rw [HE.out]; rfl, HB.out⟩
set_option maxHeartbeats 1000000 in
set_option maxRecDepth 20000 in
theorem crons_c (cs : List Cr) (hf : ∀ c, c ∈ cs → c.Fits) (v : Value) (w : World) (h : CrsAt w v cs) (hF : FldAt w) : Calls Tryd.prog 39 #[v] w fun e w' => e = .returned (.bool (cs.all cfB)) ∧ Below w.heap.size w w' := by
  have H := chid h
  have HFl := chid hF
  have HFt := chid hf
  obtain ⟨va, vc, rfl, hc1, hc2⟩ := RowsK.shape h
  clear h hF hf
  obtain ⟨N, hN⟩ : ∃ N, Hid (N = cs.length) := ⟨_, chid rfl⟩
  rw [← hN.out]
  rw [← hN.out] at H hc1
  have HS : Hid (cs.all cfB = (cs.drop 0).all cfB) := chid rfl
  go_enter Tryd.func39, Tryd.ntmps39
  go_wp2_with fail
  go_loopw [7] (fun z wr => ∃ k : Nat, z = .int .i64 (k : Nat) ∧ k ≤ N ∧ Hid (cs.all cfB = (cs.drop k).all cfB) ∧ Hid (Below w.heap.size w wr)) (fun z _ => match z with | .int _ z => ((N : Int) - z).toNat | _ => 0)
  case atStart => exact ⟨0, rfl, by omega, HS, chid (Below.refl _ _)⟩
  case round =>
    obtain ⟨k, rfl, hk, HK, HB⟩ := hrel
    clear HS
    by_cases hlt : k < N
    · have hlt' : (k : Int) < (N : Int) := by omega
      have hkl : k < cs.length := by rw [← hN.out]; exact hlt
      have hrow : CrsAt wr (.slice va cs.length vc) cs := by
        have := RowsK.next H.out HB.out
        rw [hN.out] at this
        exact this
      obtain ⟨b, off, cap, hv, -, -, hbl, hx⟩ := RowsK.open hrow (by omega)
      cases hv
      have hgd : cs.getD k cr0 = cs[k] := by simp [List.getD, hkl]
      have y0 := hx k hkl 0 _ rfl
      have y1 := hx k hkl 1 _ rfl
      have y2 := hx k hkl 2 _ rfl
      have y3 := hx k hkl 3 _ rfl
      have y4 := hx k hkl 4 _ rfl
      rw [Nat.add_zero] at y0
      rw [hgd] at y0 y1 y2 y3 y4
      have hd : cs.drop k = cs[k] :: cs.drop (k + 1) := List.drop_eq_getElem_cons hkl
      rw [hd] at HK
      have hft := HFt.out _ (List.getElem_mem hkl)
      generalize cs[k] = x at *
      clear hx hgd hd hrow
      have HK2 : Hid (cs.all cfB = (cfB x && (cs.drop (k + 1)).all cfB)) := chid HK.out
      obtain ⟨fb, fl⟩ := one_box wr 75 (crL x)
      have HC := chid (Formed_any x hft (wr.alloc (.cells (crL x).toArray 75)) ((HFl.out.later HB.out).later fl))
      have HB1 := chid (bel_to HB.out fl)
      clear HK fl hft fb
      go_wp2_with fail
      refine Calls.mono HC.out ?_
      rintro e w2 ⟨rfl, b2⟩
      have HB2 := chid (bel_to HB1.out b2)
      clear HC HB1 HB b2
      cases hr : cfB x with
      | false =>
        rw [hr] at HK2
        have HE : Hid (cs.all cfB = false) := chid HK2.out
        clear hr
        go_wp2_with fail
        go_ret
        exact ⟨by rw [HE.out]; rfl, HB2.out⟩
      | true =>
        rw [hr] at HK2
        clear hr
        have HE : Hid (cs.all cfB = (cs.drop (k + 1)).all cfB) := chid HK2.out
        go_wp2_with fail
        refine ⟨⟨k + 1, by go_num, by omega, HE, HB2⟩, ?_⟩
        show ((N : Int) - ((k : Int) + 1)).toNat < ((N : Int) - (k : Int)).toNat
        omega
    · have hlt' : ¬ (k : Int) < (N : Int) := by omega
      obtain rfl : k = N := by omega
      have HE : Hid (cs.all cfB = true) := chid (by rw [HK.out, hN.out, List.drop_length]; rfl)
      go_wp2_with fail
      go_ret
      exact ⟨by rw [HE.out]; rfl, HB.out⟩
set_option maxHeartbeats 1000000 in
set_option maxRecDepth 20000 in
theorem head_c (g : PgP) (u : PgV) (w : World) (h : PgRd w g u) (ho : PgOk g) (hF : FldAt w) : Calls Tryd.prog 26 #[pgV g u] w fun e w' => e = .returned (.bool (headB cfB g)) ∧ Below w.heap.size w w' := by
  obtain ⟨X0, XB⟩ := one_box w 38 (pgL g u)
  obtain ⟨uk, uw, ur, uc⟩ := u
  have HX0 := chid X0
  have HB0 := chid XB
  have HR := chid (h.next XB)
  have HFl := chid (hF.later XB)
  have HOk := chid ho
  clear h ho hF X0 XB
  obtain ⟨w0, hw0⟩ : ∃ x, Hid (x = w.alloc (.cells (pgL g ⟨uk, uw, ur, uc⟩).toArray 38)) := ⟨_, chid rfl⟩
  rw [← hw0.out] at HX0 HB0 HR HFl
  go_enter Tryd.func26, Tryd.ntmps26
  have z0 := HX0.out.cell 0 _ rfl
  have z1 := HX0.out.cell 1 _ rfl
  have z2 := HX0.out.cell 2 _ rfl
  have z3 := HX0.out.cell 3 _ rfl
  have z4 := HX0.out.cell 4 _ rfl
  have z5 := HX0.out.cell 5 _ rfl
  have z6 := HX0.out.cell 6 _ rfl
  have z7 := HX0.out.cell 7 _ rfl
  have z8 := HX0.out.cell 8 _ rfl
  have z9 := HX0.out.cell 9 _ rfl
  have z10 := HX0.out.cell 10 _ rfl
  have z11 := HX0.out.cell 11 _ rfl
  have zl := HX0.out.lt
  rw [hw0.out] at z0 z1 z2 z3 z4 z5 z6 z7 z8 z9 z10 z11 zl
  by_cases k0 : 0 ≤ g.met
  rotate_left
  · have k0_ := chid k0
    have HE : Hid (headB cfB g = false) := chid (by unfold headB; simp [k0_.out])
    go_wp2_with fail
    rw [← hw0.out]
    go_ret
    exact ⟨by rw [HE.out]; rfl, HB0.out⟩
  have k0_ := chid k0
  by_cases k1 : g.met ≤ 64
  rotate_left
  · have k1_ := chid k1
    have HE : Hid (headB cfB g = false) := chid (by unfold headB; simp [k0_.out, k1_.out])
    go_wp2_with fail
    rw [← hw0.out]
    go_ret
    exact ⟨by rw [HE.out]; rfl, HB0.out⟩
  have k1_ := chid k1
  have HC := chid (cRight5 g.ru.mn g.ru.mx g.ru.st g.ru.up g.ru.dn w0)
  go_wp2_with fail
  rw [← hw0.out]
  refine Calls.mono HC.out ?_
  rintro e w1 ⟨rfl, b1⟩
  have HB1 := chid (bel_to HB0.out b1)
  have HX1 := chid (HX0.out.next b1)
  have HR := chid (HR.out.next b1)
  have HFl := chid (HFl.out.later b1)
  clear z0 z1 z2 z3 z4 z5 z6 z7 z8 z9 z10 z11 zl
  clear HC b1
  cases b2 : rulesB g.ru.mn g.ru.mx g.ru.st g.ru.up g.ru.dn with
  | false =>
    have b2_ := chid b2
    clear b2
    have z0 := HX1.out.cell 0 _ rfl
    have z1 := HX1.out.cell 1 _ rfl
    have z2 := HX1.out.cell 2 _ rfl
    have z3 := HX1.out.cell 3 _ rfl
    have z4 := HX1.out.cell 4 _ rfl
    have z5 := HX1.out.cell 5 _ rfl
    have z6 := HX1.out.cell 6 _ rfl
    have z7 := HX1.out.cell 7 _ rfl
    have z8 := HX1.out.cell 8 _ rfl
    have z9 := HX1.out.cell 9 _ rfl
    have z10 := HX1.out.cell 10 _ rfl
    have z11 := HX1.out.cell 11 _ rfl
    have zl := HX1.out.lt
    have HE : Hid (headB cfB g = false) := chid (by unfold headB; simp [k0_.out, k1_.out, show ruleB g.ru = false from b2_.out])
    go_wp2_with fail
    go_ret
    exact ⟨by rw [HE.out]; rfl, HB1.out⟩
  | true =>
  have b2_ := chid b2
  clear b2
  have z0 := HX1.out.cell 0 _ rfl
  have z1 := HX1.out.cell 1 _ rfl
  have z2 := HX1.out.cell 2 _ rfl
  have z3 := HX1.out.cell 3 _ rfl
  have z4 := HX1.out.cell 4 _ rfl
  have z5 := HX1.out.cell 5 _ rfl
  have z6 := HX1.out.cell 6 _ rfl
  have z7 := HX1.out.cell 7 _ rfl
  have z8 := HX1.out.cell 8 _ rfl
  have z9 := HX1.out.cell 9 _ rfl
  have z10 := HX1.out.cell 10 _ rfl
  have z11 := HX1.out.cell 11 _ rfl
  have zl := HX1.out.lt
  have HC := chid (vew_c g _ w1 HR.out)
  go_wp2_with fail
  refine Calls.mono HC.out ?_
  rintro e w2 ⟨rfl, b1⟩
  have HB2 := chid (bel_to HB1.out b1)
  have HX2 := chid (HX1.out.next b1)
  have HR := chid (HR.out.next b1)
  have HFl := chid (HFl.out.later b1)
  clear z0 z1 z2 z3 z4 z5 z6 z7 z8 z9 z10 z11 zl
  clear HC b1
  cases b3 : vewB g with
  | false =>
    have b3_ := chid b3
    clear b3
    have z0 := HX2.out.cell 0 _ rfl
    have z1 := HX2.out.cell 1 _ rfl
    have z2 := HX2.out.cell 2 _ rfl
    have z3 := HX2.out.cell 3 _ rfl
    have z4 := HX2.out.cell 4 _ rfl
    have z5 := HX2.out.cell 5 _ rfl
    have z6 := HX2.out.cell 6 _ rfl
    have z7 := HX2.out.cell 7 _ rfl
    have z8 := HX2.out.cell 8 _ rfl
    have z9 := HX2.out.cell 9 _ rfl
    have z10 := HX2.out.cell 10 _ rfl
    have z11 := HX2.out.cell 11 _ rfl
    have zl := HX2.out.lt
    have HE : Hid (headB cfB g = false) := chid (by unfold headB; simp [k0_.out, k1_.out, show ruleB g.ru = true from b2_.out, b3_.out])
    go_wp2_with fail
    go_ret
    exact ⟨by rw [HE.out]; rfl, HB2.out⟩
  | true =>
  have b3_ := chid b3
  clear b3
  have z0 := HX2.out.cell 0 _ rfl
  have z1 := HX2.out.cell 1 _ rfl
  have z2 := HX2.out.cell 2 _ rfl
  have z3 := HX2.out.cell 3 _ rfl
  have z4 := HX2.out.cell 4 _ rfl
  have z5 := HX2.out.cell 5 _ rfl
  have z6 := HX2.out.cell 6 _ rfl
  have z7 := HX2.out.cell 7 _ rfl
  have z8 := HX2.out.cell 8 _ rfl
  have z9 := HX2.out.cell 9 _ rfl
  have z10 := HX2.out.cell 10 _ rfl
  have z11 := HX2.out.cell 11 _ rfl
  have zl := HX2.out.lt
  have HC := chid (wins_c g.wins g.met _ w2 HR.out.wi)
  go_wp2_with fail
  refine Calls.mono HC.out ?_
  rintro e w3 ⟨rfl, b1⟩
  have HB3 := chid (bel_to HB2.out b1)
  have HX3 := chid (HX2.out.next b1)
  have HR := chid (HR.out.next b1)
  have HFl := chid (HFl.out.later b1)
  clear z0 z1 z2 z3 z4 z5 z6 z7 z8 z9 z10 z11 zl
  clear HC b1
  cases b4 : winsB g.met g.wins with
  | false =>
    have b4_ := chid b4
    clear b4
    have z0 := HX3.out.cell 0 _ rfl
    have z1 := HX3.out.cell 1 _ rfl
    have z2 := HX3.out.cell 2 _ rfl
    have z3 := HX3.out.cell 3 _ rfl
    have z4 := HX3.out.cell 4 _ rfl
    have z5 := HX3.out.cell 5 _ rfl
    have z6 := HX3.out.cell 6 _ rfl
    have z7 := HX3.out.cell 7 _ rfl
    have z8 := HX3.out.cell 8 _ rfl
    have z9 := HX3.out.cell 9 _ rfl
    have z10 := HX3.out.cell 10 _ rfl
    have z11 := HX3.out.cell 11 _ rfl
    have zl := HX3.out.lt
    have HE : Hid (headB cfB g = false) := chid (by unfold headB; simp [k0_.out, k1_.out, show ruleB g.ru = true from b2_.out, b3_.out, b4_.out])
    go_wp2_with fail
    go_ret
    exact ⟨by rw [HE.out]; rfl, HB3.out⟩
  | true =>
  have b4_ := chid b4
  clear b4
  have z0 := HX3.out.cell 0 _ rfl
  have z1 := HX3.out.cell 1 _ rfl
  have z2 := HX3.out.cell 2 _ rfl
  have z3 := HX3.out.cell 3 _ rfl
  have z4 := HX3.out.cell 4 _ rfl
  have z5 := HX3.out.cell 5 _ rfl
  have z6 := HX3.out.cell 6 _ rfl
  have z7 := HX3.out.cell 7 _ rfl
  have z8 := HX3.out.cell 8 _ rfl
  have z9 := HX3.out.cell 9 _ rfl
  have z10 := HX3.out.cell 10 _ rfl
  have z11 := HX3.out.cell 11 _ rfl
  have zl := HX3.out.lt
  have HC := chid (crons_c g.crons HOk.out.crons _ w3 HR.out.cr HFl.out)
  go_wp2_with fail
  refine Calls.mono HC.out ?_
  rintro e w4 ⟨rfl, b1⟩
  have HB4 := chid (bel_to HB3.out b1)
  have HX4 := chid (HX3.out.next b1)
  have HR := chid (HR.out.next b1)
  have HFl := chid (HFl.out.later b1)
  clear z0 z1 z2 z3 z4 z5 z6 z7 z8 z9 z10 z11 zl
  clear HC b1
  cases b5 : g.crons.all cfB with
  | false =>
    have b5_ := chid b5
    clear b5
    have z0 := HX4.out.cell 0 _ rfl
    have z1 := HX4.out.cell 1 _ rfl
    have z2 := HX4.out.cell 2 _ rfl
    have z3 := HX4.out.cell 3 _ rfl
    have z4 := HX4.out.cell 4 _ rfl
    have z5 := HX4.out.cell 5 _ rfl
    have z6 := HX4.out.cell 6 _ rfl
    have z7 := HX4.out.cell 7 _ rfl
    have z8 := HX4.out.cell 8 _ rfl
    have z9 := HX4.out.cell 9 _ rfl
    have z10 := HX4.out.cell 10 _ rfl
    have z11 := HX4.out.cell 11 _ rfl
    have zl := HX4.out.lt
    have HE : Hid (headB cfB g = false) := chid (by unfold headB; simp [k0_.out, k1_.out, show ruleB g.ru = true from b2_.out, b3_.out, b4_.out, b5_.out])
    go_wp2_with fail
    go_ret
    exact ⟨by rw [HE.out]; rfl, HB4.out⟩
  | true =>
  have b5_ := chid b5
  clear b5
  have z0 := HX4.out.cell 0 _ rfl
  have z1 := HX4.out.cell 1 _ rfl
  have z2 := HX4.out.cell 2 _ rfl
  have z3 := HX4.out.cell 3 _ rfl
  have z4 := HX4.out.cell 4 _ rfl
  have z5 := HX4.out.cell 5 _ rfl
  have z6 := HX4.out.cell 6 _ rfl
  have z7 := HX4.out.cell 7 _ rfl
  have z8 := HX4.out.cell 8 _ rfl
  have z9 := HX4.out.cell 9 _ rfl
  have z10 := HX4.out.cell 10 _ rfl
  have z11 := HX4.out.cell 11 _ rfl
  have zl := HX4.out.lt
  by_cases k6 : 0 ≤ g.loc
  rotate_left
  · have k6_ := chid k6
    have HE : Hid (headB cfB g = false) := chid (by unfold headB; simp [k0_.out, k1_.out, show ruleB g.ru = true from b2_.out, b3_.out, b4_.out, b5_.out, k6_.out])
    go_wp2_with fail
    go_ret
    exact ⟨by rw [HE.out]; rfl, HB4.out⟩
  have k6_ := chid k6
  by_cases k7 : g.loc ≤ 256
  rotate_left
  · have k7_ := chid k7
    have HE : Hid (headB cfB g = false) := chid (by unfold headB; simp [k0_.out, k1_.out, show ruleB g.ru = true from b2_.out, b3_.out, b4_.out, b5_.out, k6_.out, k7_.out])
    go_wp2_with fail
    go_ret
    exact ⟨by rw [HE.out]; rfl, HB4.out⟩
  have k7_ := chid k7
  by_cases k8 : 0 ≤ g.h
  rotate_left
  · have k8_ := chid k8
    have HE : Hid (headB cfB g = false) := chid (by unfold headB; simp [k0_.out, k1_.out, show ruleB g.ru = true from b2_.out, b3_.out, b4_.out, b5_.out, k6_.out, k7_.out, k8_.out])
    go_wp2_with fail
    go_ret
    exact ⟨by rw [HE.out]; rfl, HB4.out⟩
  have k8_ := chid k8
  have HE : Hid (headB cfB g = decide (g.h ≤ 4096)) := chid (by unfold headB; simp [k0_.out, k1_.out, show ruleB g.ru = true from b2_.out, b3_.out, b4_.out, b5_.out, k6_.out, k7_.out, k8_.out])
  go_wp2_with fail
  go_ret
  exact ⟨by rw [HE.out]; rfl, HB4.out⟩
end Go.Proofs.YtigldebdljfnbaaDoor

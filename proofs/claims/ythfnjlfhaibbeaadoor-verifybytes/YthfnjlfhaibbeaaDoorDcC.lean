/- Package codec: the pieces are written. -/
import Derived.Test.YthfnjlfhaibbeaaDoorDcB
namespace Go.Proofs.YthfnjlfhaibbeaaDoor
open Go.RowKit

theorem be_wrap {x : Int} : beN 8 (wrap64 x) = beN 8 x := beN_congr (by rw [p8]; unfold wrap64; omega)
set_option maxHeartbeats 1000000 in
set_option maxRecDepth 20000 in
theorem constant_c (wb : Nat) (x : Int) (l : List UInt8) (v : Value) (w : World) (h : Wr w wb l v) (hl : l.length ≤ 1000000) :
    Calls Tryd.prog 52 #[.pointer (some ⟨wb, 0, none⟩), .int .i64 x] w fun e w' => e = .returned (.tuple #[]) ∧ Wt wb (foot wb v) w (l ++ beN 8 x) w' := by
  have HC := put_new wb 8 (by omega) [x] l v w 2 h hl (by simp)
  rw [show [x].flatMap (beN 8) = beN 8 x by simp] at HC
  have HC := chid HC
  clear h
  go_enter Tryd.func52, Tryd.ntmps52
  go_wp2_with fail
  refine Calls.mono HC.out ?_
  rintro e w1 ⟨rfl, h1⟩
  go_wp2_with fail
  refine bodyPost_end (v := .tuple #[]) (by simp [results, Tryd.results52, go_sem, *]) rfl ?_
  exact ⟨rfl, h1⟩
set_option maxHeartbeats 1000000 in
set_option maxRecDepth 20000 in
theorem window_c (wb : Nat) (x : WiP) (l : List UInt8) (v : Value) (w : World) (h : Wr w wb l v) (hl : l.length ≤ 900000) :
    Calls Tryd.prog 54 #[.pointer (some ⟨wb, 0, none⟩), .agg (wiL x).toArray] w fun e w' => e = .returned (.tuple #[]) ∧ Wt wb (foot wb v) w (l ++ enW x) w' := by
  obtain ⟨Y0, YB⟩ := one_box w 65 (wiL x)
  have h0 := h.next YB
  have HC := put_new wb 4 (by omega) [x.m, x.a] l v _ 2 h0 (by omega) (by simp)
  rw [World.size_alloc] at HC
  have HC := chid HC
  have HY := chid Y0
  have HF : Hid (∀ i, i ∈ foot wb v → wb ≤ i ∧ i < w.heap.size) := chid h.ge
  have HB := chid YB
  have y0 := Y0.cell 0 _ rfl
  have y1 := Y0.cell 1 _ rfl
  have yl := Y0.lt
  clear h h0 YB Y0
  go_enter Tryd.func54, Tryd.ntmps54
  go_wp2_with fail
  refine Calls.mono HC.out ?_
  rintro e w1 ⟨rfl, v1, W1, t1, f1⟩
  have Y1 := HY.out.turn t1 (fun hm => by have := HF.out _ hm; omega)
  have z2 := Y1.cell 2 _ rfl
  have z3 := Y1.cell 3 _ rfl
  have zl := Y1.lt
  have HC1 := put_new wb 8 (by omega) [x.s, x.p] _ v1 w1 2 W1 (by simp [beN_len]; omega) (by simp)
  rw [show (l ++ [x.m, x.a].flatMap (beN 4)) ++ [x.s, x.p].flatMap (beN 8) = l ++ enW x by simp [enW, List.append_assoc]] at HC1
  have HC1 := chid HC1
  have HT := chid (And.intro t1 f1)
  clear W1 t1 f1 Y1 y0 y1 yl
  go_wp2_with fail
  refine Calls.mono HC1.out ?_
  rintro e w2 ⟨rfl, h2⟩
  go_wp2_with fail
  refine bodyPost_end (v := .tuple #[]) (by simp [results, Tryd.results54, go_sem, *]) rfl ?_
  refine ⟨rfl, Wt.before HB.out (Wt.trans HT.out.1 HT.out.2 h2)⟩
set_option maxHeartbeats 1000000 in
set_option maxRecDepth 20000 in
theorem schedule_c (wb : Nat) (x : Cr) (l : List UInt8) (v : Value) (w : World) (h : Wr w wb l v) (hl : l.length ≤ 900000) :
    Calls Tryd.prog 56 #[.pointer (some ⟨wb, 0, none⟩), .agg (crL x).toArray] w fun e w' => e = .returned (.tuple #[]) ∧ Wt wb (foot wb v) w (l ++ enC x) w' := by
  obtain ⟨Y0, YB⟩ := one_box w 68 (crL x)
  have h0 := h.next YB
  have HC := put_new wb 8 (by omega) [wrap64 (x.a : Nat), wrap64 (x.b : Nat), wrap64 (x.c : Nat), wrap64 (x.d : Nat), wrap64 (x.e : Nat)] l v _ 2 h0 (by omega) (by simp)
  rw [World.size_alloc, show l ++ [wrap64 (x.a : Nat), wrap64 (x.b : Nat), wrap64 (x.c : Nat), wrap64 (x.d : Nat), wrap64 (x.e : Nat)].flatMap (beN 8) = l ++ enC x by simp [enC, List.append_assoc, be_wrap]] at HC
  have HC := chid HC
  have HB := chid YB
  have y0 := Y0.cell 0 _ rfl
  have y1 := Y0.cell 1 _ rfl
  have y2 := Y0.cell 2 _ rfl
  have y3 := Y0.cell 3 _ rfl
  have y4 := Y0.cell 4 _ rfl
  have yl := Y0.lt
  clear h h0 YB Y0
  obtain ⟨xa, xb, xc, xd, xe⟩ := x
  go_enter Tryd.func56, Tryd.ntmps56
  go_wp2_with fail
  refine Calls.mono HC.out ?_
  rintro e w1 ⟨rfl, h1⟩
  go_wp2_with fail
  refine bodyPost_end (v := .tuple #[]) (by simp [results, Tryd.results56, go_sem, *]) rfl ?_
  exact ⟨rfl, Wt.before HB.out h1⟩
set_option maxHeartbeats 1000000 in
set_option maxRecDepth 20000 in
theorem instruction_c (wb : Nat) (x : Ins) (l : List UInt8) (v : Value) (w : World) (h : Wr w wb l v) (hl : l.length ≤ 900000) :
    Calls Tryd.prog 58 #[.pointer (some ⟨wb, 0, none⟩), .agg (inL x).toArray] w fun e w' => e = .returned (.tuple #[]) ∧ Wt wb (foot wb v) w (l ++ enI x) w' := by
  obtain ⟨Y0, YB⟩ := one_box w 51 (inL x)
  have h0 := h.next YB
  have HC := put_new wb 1 (by omega) [x.1] l v _ 2 h0 (by omega) (by simp)
  rw [World.size_alloc] at HC
  have HC := chid HC
  have HY := chid Y0
  have HF : Hid (∀ i, i ∈ foot wb v → wb ≤ i ∧ i < w.heap.size) := chid h.ge
  have HB := chid YB
  have y0 := Y0.cell 0 _ rfl
  have yl := Y0.lt
  clear h h0 YB Y0
  go_enter Tryd.func58, Tryd.ntmps58
  go_wp2_with fail
  refine Calls.mono HC.out ?_
  rintro e w1 ⟨rfl, v1, W1, t1, f1⟩
  have Y1 := HY.out.turn t1 (fun hm => by have := HF.out _ hm; omega)
  have z1 := Y1.cell 1 _ rfl
  have zl := Y1.lt
  have HC1 := put_new wb 8 (by omega) [x.2] _ v1 w1 2 W1 (by simp [beN_len]; omega) (by simp)
  rw [show (l ++ [x.1].flatMap (beN 1)) ++ [x.2].flatMap (beN 8) = l ++ enI x by simp [enI, List.append_assoc]] at HC1
  have HC1 := chid HC1
  have HT := chid (And.intro t1 f1)
  clear W1 t1 f1 Y1 y0 yl
  go_wp2_with fail
  refine Calls.mono HC1.out ?_
  rintro e w2 ⟨rfl, h2⟩
  go_wp2_with fail
  refine bodyPost_end (v := .tuple #[]) (by simp [results, Tryd.results58, go_sem, *]) rfl ?_
  refine ⟨rfl, Wt.before HB.out (Wt.trans HT.out.1 HT.out.2 h2)⟩
end Go.Proofs.YthfnjlfhaibbeaaDoor

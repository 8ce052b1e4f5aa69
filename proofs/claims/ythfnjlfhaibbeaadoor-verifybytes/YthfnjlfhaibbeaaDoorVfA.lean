/- Package verify: the document's Need, Ways. -/
import Derived.Test.YthfnjlfhaibbeaaDoorVeN
namespace Go.Proofs.YthfnjlfhaibbeaaDoor
open Go.RowKit

set_option maxRecDepth 20000 in
theorem rNeed_c (op : Int) (w : World) : Calls Tryd.prog 28 #[.int .i64 op] w fun e w' => e = .returned (.int .i64 (needF op)) ∧ w' = w := by
  by_cases ho : op < 1
  · have hn : needF op = -1 := by unfold needF; rw [if_pos (.inl ho)]
    rw [hn]
    go_enter Tryd.func28, Tryd.ntmps28
    go_wp2_with fail
    go_ret
    exact ⟨rfl, rfl⟩
  by_cases ho2 : 33 < op
  · have hn : needF op = -1 := by unfold needF; rw [if_pos (.inr ho2)]
    rw [hn]
    go_enter Tryd.func28, Tryd.ntmps28
    go_wp2_with fail
    go_ret
    exact ⟨rfl, rfl⟩
  rcases ops_of (op := op) (by omega) (by omega) with rfl | rfl | rfl | rfl | rfl | rfl | rfl | rfl | rfl | rfl | rfl | rfl | rfl | rfl | rfl | rfl | rfl | rfl | rfl | rfl | rfl | rfl | rfl | rfl | rfl | rfl | rfl | rfl | rfl | rfl | rfl | rfl | rfl
  all_goals go_enter Tryd.func28, Tryd.ntmps28
  all_goals go_wp2_with fail
  all_goals go_ret
  all_goals exact ⟨rfl, rfl⟩
abbrev wyL (x : Wy) : List Value := [.int .i64 x.1, .int .i64 x.2.1, .int .i64 x.2.2]
def wy0 : Wy := (0, 0, 0)
def WysAt (w : World) (v : Value) (l : List Wy) : Prop := RowsK w v l.length 3 (fun i => wyL (l.getD i wy0))
/-- What Ways answers. -/
def WyP (q : List Wy × Bool) (w : World) (e : Ending) (w' : World) : Prop := Below w.heap.size w w' ∧ ∃ v, e = .returned (.tuple #[v, .bool q.2]) ∧ WysAt w' v q.1 ∧ ∀ b, v.ownBlock = some b → w.heap.size ≤ b
theorem wys_new (w : World) (l : List Wy) (t : TypeId) (cs : Array Value) (hc : cs = (flR wyL l).toArray) (hl : l.length ≤ 9223372036854775807) : WysAt (w.alloc (.cells cs t)) (.slice (some ⟨w.heap.size, 0, none⟩) l.length l.length) l := by
  subst hc
  have B := Box.new w (flR wyL l) t
  refine ⟨some ⟨w.heap.size, 0, none⟩, l.length, rfl, Nat.le_refl _, hl, .inr ⟨w.heap.size, 0, rfl, B.lt, fun i hi j x hx => ?_⟩⟩
  have hg : l.getD i wy0 = l[i] := by simp [List.getD, hi]
  have hx' : (wyL l[i])[j]? = some x := by rw [← hg]; exact hx
  have := B.cell _ _ (flR_at (k := 3) (fun _ => rfl) l i j l[i] x (List.getElem?_eq_getElem hi) hx')
  have e : 0 + i * 3 + j = i * 3 + j := by omega
  exact e ▸ this
theorem wp_nil {w : World} {b : Bool} (o : Obj) : WyP ([], b) w (.returned (.tuple #[.slice none 0 0, .bool b])) (w.alloc o) := ⟨bel_alloc w o, _, rfl, ⟨none, 0, rfl, Nat.le_refl _, by omega, .inl rfl⟩, fun b h => by cases h⟩
theorem wp_two {w : World} {l : List Wy} {b : Bool} {o : Obj} {t : TypeId} {cs : Array Value} (hc : cs = (flR wyL l).toArray) (hl : l.length ≤ 9223372036854775807) : WyP (l, b) w (.returned (.tuple #[.slice (some ⟨w.heap.size + 1, 0, none⟩) l.length l.length, .bool b])) ((w.alloc o).alloc (.cells cs t)) := by
  have h := wys_new (w.alloc o) l t cs hc hl
  rw [World.size_alloc] at h
  exact ⟨two_al _ _, _, rfl, h, fun b hb => by have h3 : w.heap.size + 1 = b := Option.some.inj hb; omega⟩
set_option maxHeartbeats 2000000 in
set_option maxRecDepth 20000 in
theorem rWays_c (i : Nat) (hi : i ≤ 16384) (op a h t : Int) (h0 : 0 ≤ h) (h1 : h ≤ 4096) (t0 : 0 ≤ t) (t1 : t ≤ 4096) (w : World) : Calls Tryd.prog 17 #[.int .i64 (i : Nat), .agg #[.int .i64 op, .int .i64 a], .int .i64 h, .int .i64 t] w (WyP (waysF i op a h t) w) := by
  have HN := chid (rNeed_c)
  have hw1 : IntKind.i64.wrap ((i : Int) + 1) = (i : Int) + 1 := by rw [IntKind.wrap_i64]; omega
  have hw2 : IntKind.i64.wrap (h + 1) = h + 1 := by rw [IntKind.wrap_i64]; omega
  have hw3 : IntKind.i64.wrap (h - 1) = h - 1 := by rw [IntKind.wrap_i64]; omega
  have hw4 : IntKind.i64.wrap (t + 1) = t + 1 := by rw [IntKind.wrap_i64]; omega
  have hw5 : IntKind.i64.wrap (t - 1) = t - 1 := by rw [IntKind.wrap_i64]; omega
  by_cases hn0 : needF op < 0
  · have hq : waysF i op a h t = ([], false) := by unfold waysF; rw [if_pos (.inl hn0)]
    rw [hq]
    go_enter Tryd.func17, Tryd.ntmps17
    go_wp2_with fail
    refine Calls.mono (HN.out op _) ?_
    rintro e w1 ⟨rfl, rfl⟩
    go_wp2_with fail
    refine bodyPost_ret (v := .tuple #[.slice none 0 0, .bool false]) (by simp [results, Tryd.results17, go_sem, *]) rfl (wp_nil _)
  by_cases hn1 : h < needF op
  · have hq : waysF i op a h t = ([], false) := by unfold waysF; rw [if_pos (.inr hn1)]
    rw [hq]
    go_enter Tryd.func17, Tryd.ntmps17
    go_wp2_with fail
    refine Calls.mono (HN.out op _) ?_
    rintro e w1 ⟨rfl, rfl⟩
    go_wp2_with fail
    refine bodyPost_ret (v := .tuple #[.slice none 0 0, .bool false]) (by simp [results, Tryd.results17, go_sem, *]) rfl (wp_nil _)
  have hop : 1 ≤ op ∧ op ≤ 33 := by
    unfold needF at hn0
    by_cases c : op < 1 ∨ 33 < op
    · rw [if_pos c] at hn0; omega
    · omega
  rcases ops_of hop.1 hop.2 with rfl | rfl | rfl | rfl | rfl | rfl | rfl | rfl | rfl | rfl | rfl | rfl | rfl | rfl | rfl | rfl | rfl | rfl | rfl | rfl | rfl | rfl | rfl | rfl | rfl | rfl | rfl | rfl | rfl | rfl | rfl | rfl | rfl
  · have hq : waysF i 1 a h t = ([((i : Int) + 1, h + 1, t)], true) := by
      unfold waysF
      rw [if_neg (by omega)]
      rfl
    have hnn : needF 1 = 0 := rfl
    rw [hnn] at hn0 hn1
    rw [hq]
    clear hq
    go_enter Tryd.func17, Tryd.ntmps17
    go_wp2_with fail
    refine Calls.mono (HN.out 1 _) ?_
    rintro e w1 ⟨rfl, rfl⟩
    rw [hnn]
    go_wp2_with fail
    refine bodyPost_ret (v := .tuple #[.slice (some ⟨w.heap.size + 1, 0, none⟩) 1 1, .bool (true)]) (by simp [results, Tryd.results17, go_sem, *]) rfl (wp_two rfl (by simp only [List.length_cons, List.length_nil]; omega))
  · have hq : waysF i 2 a h t = ([((i : Int) + 1, h + 1, t)], true) := by
      unfold waysF
      rw [if_neg (by omega)]
      rfl
    have hnn : needF 2 = 0 := rfl
    rw [hnn] at hn0 hn1
    rw [hq]
    clear hq
    go_enter Tryd.func17, Tryd.ntmps17
    go_wp2_with fail
    refine Calls.mono (HN.out 2 _) ?_
    rintro e w1 ⟨rfl, rfl⟩
    rw [hnn]
    go_wp2_with fail
    refine bodyPost_ret (v := .tuple #[.slice (some ⟨w.heap.size + 1, 0, none⟩) 1 1, .bool (true)]) (by simp [results, Tryd.results17, go_sem, *]) rfl (wp_two rfl (by simp only [List.length_cons, List.length_nil]; omega))
  · have hq : waysF i 3 a h t = ([((i : Int) + 1, h + 1, t)], true) := by
      unfold waysF
      rw [if_neg (by omega)]
      rfl
    have hnn : needF 3 = 0 := rfl
    rw [hnn] at hn0 hn1
    rw [hq]
    clear hq
    go_enter Tryd.func17, Tryd.ntmps17
    go_wp2_with fail
    refine Calls.mono (HN.out 3 _) ?_
    rintro e w1 ⟨rfl, rfl⟩
    rw [hnn]
    go_wp2_with fail
    refine bodyPost_ret (v := .tuple #[.slice (some ⟨w.heap.size + 1, 0, none⟩) 1 1, .bool (true)]) (by simp [results, Tryd.results17, go_sem, *]) rfl (wp_two rfl (by simp only [List.length_cons, List.length_nil]; omega))
  · have hq : waysF i 4 a h t = ([((i : Int) + 1, h + 1, t)], true) := by
      unfold waysF
      rw [if_neg (by omega)]
      rfl
    have hnn : needF 4 = 0 := rfl
    rw [hnn] at hn0 hn1
    rw [hq]
    clear hq
    go_enter Tryd.func17, Tryd.ntmps17
    go_wp2_with fail
    refine Calls.mono (HN.out 4 _) ?_
    rintro e w1 ⟨rfl, rfl⟩
    rw [hnn]
    go_wp2_with fail
    refine bodyPost_ret (v := .tuple #[.slice (some ⟨w.heap.size + 1, 0, none⟩) 1 1, .bool (true)]) (by simp [results, Tryd.results17, go_sem, *]) rfl (wp_two rfl (by simp only [List.length_cons, List.length_nil]; omega))
  · have hq : waysF i 5 a h t = ([((i : Int) + 1, h + 1, t)], true) := by
      unfold waysF
      rw [if_neg (by omega)]
      rfl
    have hnn : needF 5 = 0 := rfl
    rw [hnn] at hn0 hn1
    rw [hq]
    clear hq
    go_enter Tryd.func17, Tryd.ntmps17
    go_wp2_with fail
    refine Calls.mono (HN.out 5 _) ?_
    rintro e w1 ⟨rfl, rfl⟩
    rw [hnn]
    go_wp2_with fail
    refine bodyPost_ret (v := .tuple #[.slice (some ⟨w.heap.size + 1, 0, none⟩) 1 1, .bool (true)]) (by simp [results, Tryd.results17, go_sem, *]) rfl (wp_two rfl (by simp only [List.length_cons, List.length_nil]; omega))
  · have hq : waysF i 6 a h t = ([((i : Int) + 1, h, t)], true) := by
      unfold waysF
      rw [if_neg (by omega)]
      rfl
    have hnn : needF 6 = 1 := rfl
    rw [hnn] at hn0 hn1
    rw [hq]
    clear hq
    go_enter Tryd.func17, Tryd.ntmps17
    go_wp2_with fail
    refine Calls.mono (HN.out 6 _) ?_
    rintro e w1 ⟨rfl, rfl⟩
    rw [hnn]
    go_wp2_with fail
    refine bodyPost_ret (v := .tuple #[.slice (some ⟨w.heap.size + 1, 0, none⟩) 1 1, .bool (true)]) (by simp [results, Tryd.results17, go_sem, *]) rfl (wp_two rfl (by simp only [List.length_cons, List.length_nil]; omega))
  · have hq : waysF i 7 a h t = ([((i : Int) + 1, h, t)], true) := by
      unfold waysF
      rw [if_neg (by omega)]
      rfl
    have hnn : needF 7 = 1 := rfl
    rw [hnn] at hn0 hn1
    rw [hq]
    clear hq
    go_enter Tryd.func17, Tryd.ntmps17
    go_wp2_with fail
    refine Calls.mono (HN.out 7 _) ?_
    rintro e w1 ⟨rfl, rfl⟩
    rw [hnn]
    go_wp2_with fail
    refine bodyPost_ret (v := .tuple #[.slice (some ⟨w.heap.size + 1, 0, none⟩) 1 1, .bool (true)]) (by simp [results, Tryd.results17, go_sem, *]) rfl (wp_two rfl (by simp only [List.length_cons, List.length_nil]; omega))
  · have hq : waysF i 8 a h t = ([((i : Int) + 1, h, t)], true) := by
      unfold waysF
      rw [if_neg (by omega)]
      rfl
    have hnn : needF 8 = 1 := rfl
    rw [hnn] at hn0 hn1
    rw [hq]
    clear hq
    go_enter Tryd.func17, Tryd.ntmps17
    go_wp2_with fail
    refine Calls.mono (HN.out 8 _) ?_
    rintro e w1 ⟨rfl, rfl⟩
    rw [hnn]
    go_wp2_with fail
    refine bodyPost_ret (v := .tuple #[.slice (some ⟨w.heap.size + 1, 0, none⟩) 1 1, .bool (true)]) (by simp [results, Tryd.results17, go_sem, *]) rfl (wp_two rfl (by simp only [List.length_cons, List.length_nil]; omega))
  · have hq : waysF i 9 a h t = ([((i : Int) + 1, h, t)], true) := by
      unfold waysF
      rw [if_neg (by omega)]
      rfl
    have hnn : needF 9 = 1 := rfl
    rw [hnn] at hn0 hn1
    rw [hq]
    clear hq
    go_enter Tryd.func17, Tryd.ntmps17
    go_wp2_with fail
    refine Calls.mono (HN.out 9 _) ?_
    rintro e w1 ⟨rfl, rfl⟩
    rw [hnn]
    go_wp2_with fail
    refine bodyPost_ret (v := .tuple #[.slice (some ⟨w.heap.size + 1, 0, none⟩) 1 1, .bool (true)]) (by simp [results, Tryd.results17, go_sem, *]) rfl (wp_two rfl (by simp only [List.length_cons, List.length_nil]; omega))
  · have hq : waysF i 10 a h t = ([((i : Int) + 1, h, t)], true) := by
      unfold waysF
      rw [if_neg (by omega)]
      rfl
    have hnn : needF 10 = 1 := rfl
    rw [hnn] at hn0 hn1
    rw [hq]
    clear hq
    go_enter Tryd.func17, Tryd.ntmps17
    go_wp2_with fail
    refine Calls.mono (HN.out 10 _) ?_
    rintro e w1 ⟨rfl, rfl⟩
    rw [hnn]
    go_wp2_with fail
    refine bodyPost_ret (v := .tuple #[.slice (some ⟨w.heap.size + 1, 0, none⟩) 1 1, .bool (true)]) (by simp [results, Tryd.results17, go_sem, *]) rfl (wp_two rfl (by simp only [List.length_cons, List.length_nil]; omega))
  · have hq : waysF i 11 a h t = ([((i : Int) + 1, h, t)], true) := by
      unfold waysF
      rw [if_neg (by omega)]
      rfl
    have hnn : needF 11 = 1 := rfl
    rw [hnn] at hn0 hn1
    rw [hq]
    clear hq
    go_enter Tryd.func17, Tryd.ntmps17
    go_wp2_with fail
    refine Calls.mono (HN.out 11 _) ?_
    rintro e w1 ⟨rfl, rfl⟩
    rw [hnn]
    go_wp2_with fail
    refine bodyPost_ret (v := .tuple #[.slice (some ⟨w.heap.size + 1, 0, none⟩) 1 1, .bool (true)]) (by simp [results, Tryd.results17, go_sem, *]) rfl (wp_two rfl (by simp only [List.length_cons, List.length_nil]; omega))
  · have hq : waysF i 12 a h t = ([((i : Int) + 1, h - 1, t)], true) := by
      unfold waysF
      rw [if_neg (by omega)]
      rfl
    have hnn : needF 12 = 2 := rfl
    rw [hnn] at hn0 hn1
    rw [hq]
    clear hq
    go_enter Tryd.func17, Tryd.ntmps17
    go_wp2_with fail
    refine Calls.mono (HN.out 12 _) ?_
    rintro e w1 ⟨rfl, rfl⟩
    rw [hnn]
    go_wp2_with fail
    refine bodyPost_ret (v := .tuple #[.slice (some ⟨w.heap.size + 1, 0, none⟩) 1 1, .bool (true)]) (by simp [results, Tryd.results17, go_sem, *]) rfl (wp_two rfl (by simp only [List.length_cons, List.length_nil]; omega))
  · have hq : waysF i 13 a h t = ([((i : Int) + 1, h - 1, t)], true) := by
      unfold waysF
      rw [if_neg (by omega)]
      rfl
    have hnn : needF 13 = 2 := rfl
    rw [hnn] at hn0 hn1
    rw [hq]
    clear hq
    go_enter Tryd.func17, Tryd.ntmps17
    go_wp2_with fail
    refine Calls.mono (HN.out 13 _) ?_
    rintro e w1 ⟨rfl, rfl⟩
    rw [hnn]
    go_wp2_with fail
    refine bodyPost_ret (v := .tuple #[.slice (some ⟨w.heap.size + 1, 0, none⟩) 1 1, .bool (true)]) (by simp [results, Tryd.results17, go_sem, *]) rfl (wp_two rfl (by simp only [List.length_cons, List.length_nil]; omega))
  · have hq : waysF i 14 a h t = ([((i : Int) + 1, h - 1, t)], true) := by
      unfold waysF
      rw [if_neg (by omega)]
      rfl
    have hnn : needF 14 = 2 := rfl
    rw [hnn] at hn0 hn1
    rw [hq]
    clear hq
    go_enter Tryd.func17, Tryd.ntmps17
    go_wp2_with fail
    refine Calls.mono (HN.out 14 _) ?_
    rintro e w1 ⟨rfl, rfl⟩
    rw [hnn]
    go_wp2_with fail
    refine bodyPost_ret (v := .tuple #[.slice (some ⟨w.heap.size + 1, 0, none⟩) 1 1, .bool (true)]) (by simp [results, Tryd.results17, go_sem, *]) rfl (wp_two rfl (by simp only [List.length_cons, List.length_nil]; omega))
  · have hq : waysF i 15 a h t = ([((i : Int) + 1, h - 1, t)], true) := by
      unfold waysF
      rw [if_neg (by omega)]
      rfl
    have hnn : needF 15 = 2 := rfl
    rw [hnn] at hn0 hn1
    rw [hq]
    clear hq
    go_enter Tryd.func17, Tryd.ntmps17
    go_wp2_with fail
    refine Calls.mono (HN.out 15 _) ?_
    rintro e w1 ⟨rfl, rfl⟩
    rw [hnn]
    go_wp2_with fail
    refine bodyPost_ret (v := .tuple #[.slice (some ⟨w.heap.size + 1, 0, none⟩) 1 1, .bool (true)]) (by simp [results, Tryd.results17, go_sem, *]) rfl (wp_two rfl (by simp only [List.length_cons, List.length_nil]; omega))
  · have hq : waysF i 16 a h t = ([((i : Int) + 1, h - 1, t)], true) := by
      unfold waysF
      rw [if_neg (by omega)]
      rfl
    have hnn : needF 16 = 2 := rfl
    rw [hnn] at hn0 hn1
    rw [hq]
    clear hq
    go_enter Tryd.func17, Tryd.ntmps17
    go_wp2_with fail
    refine Calls.mono (HN.out 16 _) ?_
    rintro e w1 ⟨rfl, rfl⟩
    rw [hnn]
    go_wp2_with fail
    refine bodyPost_ret (v := .tuple #[.slice (some ⟨w.heap.size + 1, 0, none⟩) 1 1, .bool (true)]) (by simp [results, Tryd.results17, go_sem, *]) rfl (wp_two rfl (by simp only [List.length_cons, List.length_nil]; omega))
  · have hq : waysF i 17 a h t = ([((i : Int) + 1, h - 1, t)], true) := by
      unfold waysF
      rw [if_neg (by omega)]
      rfl
    have hnn : needF 17 = 2 := rfl
    rw [hnn] at hn0 hn1
    rw [hq]
    clear hq
    go_enter Tryd.func17, Tryd.ntmps17
    go_wp2_with fail
    refine Calls.mono (HN.out 17 _) ?_
    rintro e w1 ⟨rfl, rfl⟩
    rw [hnn]
    go_wp2_with fail
    refine bodyPost_ret (v := .tuple #[.slice (some ⟨w.heap.size + 1, 0, none⟩) 1 1, .bool (true)]) (by simp [results, Tryd.results17, go_sem, *]) rfl (wp_two rfl (by simp only [List.length_cons, List.length_nil]; omega))
  · have hq : waysF i 18 a h t = ([((i : Int) + 1, h - 1, t)], true) := by
      unfold waysF
      rw [if_neg (by omega)]
      rfl
    have hnn : needF 18 = 2 := rfl
    rw [hnn] at hn0 hn1
    rw [hq]
    clear hq
    go_enter Tryd.func17, Tryd.ntmps17
    go_wp2_with fail
    refine Calls.mono (HN.out 18 _) ?_
    rintro e w1 ⟨rfl, rfl⟩
    rw [hnn]
    go_wp2_with fail
    refine bodyPost_ret (v := .tuple #[.slice (some ⟨w.heap.size + 1, 0, none⟩) 1 1, .bool (true)]) (by simp [results, Tryd.results17, go_sem, *]) rfl (wp_two rfl (by simp only [List.length_cons, List.length_nil]; omega))
  · have hq : waysF i 19 a h t = ([((i : Int) + 1, h - 1, t)], true) := by
      unfold waysF
      rw [if_neg (by omega)]
      rfl
    have hnn : needF 19 = 2 := rfl
    rw [hnn] at hn0 hn1
    rw [hq]
    clear hq
    go_enter Tryd.func17, Tryd.ntmps17
    go_wp2_with fail
    refine Calls.mono (HN.out 19 _) ?_
    rintro e w1 ⟨rfl, rfl⟩
    rw [hnn]
    go_wp2_with fail
    refine bodyPost_ret (v := .tuple #[.slice (some ⟨w.heap.size + 1, 0, none⟩) 1 1, .bool (true)]) (by simp [results, Tryd.results17, go_sem, *]) rfl (wp_two rfl (by simp only [List.length_cons, List.length_nil]; omega))
  · have hq : waysF i 20 a h t = ([((i : Int) + 1, h - 1, t)], true) := by
      unfold waysF
      rw [if_neg (by omega)]
      rfl
    have hnn : needF 20 = 2 := rfl
    rw [hnn] at hn0 hn1
    rw [hq]
    clear hq
    go_enter Tryd.func17, Tryd.ntmps17
    go_wp2_with fail
    refine Calls.mono (HN.out 20 _) ?_
    rintro e w1 ⟨rfl, rfl⟩
    rw [hnn]
    go_wp2_with fail
    refine bodyPost_ret (v := .tuple #[.slice (some ⟨w.heap.size + 1, 0, none⟩) 1 1, .bool (true)]) (by simp [results, Tryd.results17, go_sem, *]) rfl (wp_two rfl (by simp only [List.length_cons, List.length_nil]; omega))
  · have hq : waysF i 21 a h t = ([((i : Int) + 1, h - 1, t)], true) := by
      unfold waysF
      rw [if_neg (by omega)]
      rfl
    have hnn : needF 21 = 2 := rfl
    rw [hnn] at hn0 hn1
    rw [hq]
    clear hq
    go_enter Tryd.func17, Tryd.ntmps17
    go_wp2_with fail
    refine Calls.mono (HN.out 21 _) ?_
    rintro e w1 ⟨rfl, rfl⟩
    rw [hnn]
    go_wp2_with fail
    refine bodyPost_ret (v := .tuple #[.slice (some ⟨w.heap.size + 1, 0, none⟩) 1 1, .bool (true)]) (by simp [results, Tryd.results17, go_sem, *]) rfl (wp_two rfl (by simp only [List.length_cons, List.length_nil]; omega))
  · have hq : waysF i 22 a h t = ([((i : Int) + 1, h - 1, t)], true) := by
      unfold waysF
      rw [if_neg (by omega)]
      rfl
    have hnn : needF 22 = 2 := rfl
    rw [hnn] at hn0 hn1
    rw [hq]
    clear hq
    go_enter Tryd.func17, Tryd.ntmps17
    go_wp2_with fail
    refine Calls.mono (HN.out 22 _) ?_
    rintro e w1 ⟨rfl, rfl⟩
    rw [hnn]
    go_wp2_with fail
    refine bodyPost_ret (v := .tuple #[.slice (some ⟨w.heap.size + 1, 0, none⟩) 1 1, .bool (true)]) (by simp [results, Tryd.results17, go_sem, *]) rfl (wp_two rfl (by simp only [List.length_cons, List.length_nil]; omega))
  · have hq : waysF i 23 a h t = ([(a, h, t)], true) := by
      unfold waysF
      rw [if_neg (by omega)]
      rfl
    have hnn : needF 23 = 0 := rfl
    rw [hnn] at hn0 hn1
    rw [hq]
    clear hq
    go_enter Tryd.func17, Tryd.ntmps17
    go_wp2_with fail
    refine Calls.mono (HN.out 23 _) ?_
    rintro e w1 ⟨rfl, rfl⟩
    rw [hnn]
    go_wp2_with fail
    refine bodyPost_ret (v := .tuple #[.slice (some ⟨w.heap.size + 1, 0, none⟩) 1 1, .bool (true)]) (by simp [results, Tryd.results17, go_sem, *]) rfl (wp_two rfl (by simp only [List.length_cons, List.length_nil]; omega))
  · have hq : waysF i 24 a h t = ([(a, h - 1, t), ((i : Int) + 1, h - 1, t)], true) := by
      unfold waysF
      rw [if_neg (by omega)]
      rfl
    have hnn : needF 24 = 1 := rfl
    rw [hnn] at hn0 hn1
    rw [hq]
    clear hq
    go_enter Tryd.func17, Tryd.ntmps17
    go_wp2_with fail
    refine Calls.mono (HN.out 24 _) ?_
    rintro e w1 ⟨rfl, rfl⟩
    rw [hnn]
    go_wp2_with fail
    refine bodyPost_ret (v := .tuple #[.slice (some ⟨w.heap.size + 1, 0, none⟩) 2 2, .bool (true)]) (by simp [results, Tryd.results17, go_sem, *]) rfl (wp_two rfl (by simp only [List.length_cons, List.length_nil]; omega))
  · have hq : waysF i 25 a h t = ([(a, h, t), ((i : Int) + 1, h, t + 1)], decide (t < 4096)) := by
      unfold waysF
      rw [if_neg (by omega)]
      rfl
    have hnn : needF 25 = 0 := rfl
    rw [hnn] at hn0 hn1
    rw [hq]
    clear hq
    go_enter Tryd.func17, Tryd.ntmps17
    go_wp2_with fail
    refine Calls.mono (HN.out 25 _) ?_
    rintro e w1 ⟨rfl, rfl⟩
    rw [hnn]
    go_wp2_with fail
    refine bodyPost_ret (v := .tuple #[.slice (some ⟨w.heap.size + 1, 0, none⟩) 2 2, .bool (decide (t < 4096))]) (by simp [results, Tryd.results17, go_sem, *]) rfl (wp_two rfl (by simp only [List.length_cons, List.length_nil]; omega))
  · have hq : waysF i 26 a h t = ([(a, h, t - 1)], decide (0 < t)) := by
      unfold waysF
      rw [if_neg (by omega)]
      rfl
    have hnn : needF 26 = 0 := rfl
    rw [hnn] at hn0 hn1
    rw [hq]
    clear hq
    go_enter Tryd.func17, Tryd.ntmps17
    go_wp2_with fail
    refine Calls.mono (HN.out 26 _) ?_
    rintro e w1 ⟨rfl, rfl⟩
    rw [hnn]
    go_wp2_with fail
    refine bodyPost_ret (v := .tuple #[.slice (some ⟨w.heap.size + 1, 0, none⟩) 1 1, .bool (decide (0 < t))]) (by simp [results, Tryd.results17, go_sem, *]) rfl (wp_two rfl (by simp only [List.length_cons, List.length_nil]; omega))
  · have hq : waysF i 27 a h t = ([(a.tmod 16384, h + 1, t), ((i : Int) + 1, h, t)], true) := by
      unfold waysF
      rw [if_neg (by omega)]
      rfl
    have hnn : needF 27 = 0 := rfl
    rw [hnn] at hn0 hn1
    rw [hq]
    clear hq
    go_enter Tryd.func17, Tryd.ntmps17
    go_wp2_with fail
    refine Calls.mono (HN.out 27 _) ?_
    rintro e w1 ⟨rfl, rfl⟩
    rw [hnn]
    go_wp2_with fail
    refine bodyPost_ret (v := .tuple #[.slice (some ⟨w.heap.size + 1, 0, none⟩) 2 2, .bool (true)]) (by simp [results, Tryd.results17, go_sem, *]) rfl (wp_two rfl (by simp only [List.length_cons, List.length_nil]; omega))
  · have hq : waysF i 28 a h t = ([((i : Int) + 1, h, t)], true) := by
      unfold waysF
      rw [if_neg (by omega)]
      rfl
    have hnn : needF 28 = 1 := rfl
    rw [hnn] at hn0 hn1
    rw [hq]
    clear hq
    go_enter Tryd.func17, Tryd.ntmps17
    go_wp2_with fail
    refine Calls.mono (HN.out 28 _) ?_
    rintro e w1 ⟨rfl, rfl⟩
    rw [hnn]
    go_wp2_with fail
    refine bodyPost_ret (v := .tuple #[.slice (some ⟨w.heap.size + 1, 0, none⟩) 1 1, .bool (true)]) (by simp [results, Tryd.results17, go_sem, *]) rfl (wp_two rfl (by simp only [List.length_cons, List.length_nil]; omega))
  · have hq : waysF i 29 a h t = ([], (decide (h = 0) && decide (t = 0))) := by
      unfold waysF
      rw [if_neg (by omega)]
      rfl
    have hnn : needF 29 = 0 := rfl
    rw [hnn] at hn0 hn1
    rw [hq]
    clear hq
    by_cases c1 : h = 0
    · have hb : (decide (h = 0) && decide (t = 0)) = decide (t = 0) := by simp [c1]
      rw [hb]
      clear hb
      by_cases c2 : t = 0
      · have hb : decide (t = 0) = true := by simp [c2]
        rw [hb]
        clear hb
        subst c1 c2
        go_enter Tryd.func17, Tryd.ntmps17
        go_wp2_with fail
        refine Calls.mono (HN.out 29 _) ?_
        rintro e w1 ⟨rfl, rfl⟩
        rw [hnn]
        go_wp2_with fail
        refine bodyPost_ret (v := .tuple #[.slice none 0 0, .bool true]) (by simp [results, Tryd.results17, go_sem, *]) rfl (wp_nil _)
      · have hb : decide (t = 0) = false := by simp [c2]
        rw [hb]
        clear hb
        subst c1
        go_enter Tryd.func17, Tryd.ntmps17
        go_wp2_with fail
        refine Calls.mono (HN.out 29 _) ?_
        rintro e w1 ⟨rfl, rfl⟩
        rw [hnn]
        go_wp2_with fail
        refine bodyPost_ret (v := .tuple #[.slice none 0 0, .bool false]) (by simp [results, Tryd.results17, go_sem, *]) rfl (wp_nil _)
    · have hb : (decide (h = 0) && decide (t = 0)) = false := by simp [c1]
      rw [hb]
      clear hb
      go_enter Tryd.func17, Tryd.ntmps17
      go_wp2_with fail
      refine Calls.mono (HN.out 29 _) ?_
      rintro e w1 ⟨rfl, rfl⟩
      rw [hnn]
      go_wp2_with fail
      refine bodyPost_ret (v := .tuple #[.slice none 0 0, .bool false]) (by simp [results, Tryd.results17, go_sem, *]) rfl (wp_nil _)
  · have hq : waysF i 30 a h t = ([], (decide (h = 1) && decide (t = 0))) := by
      unfold waysF
      rw [if_neg (by omega)]
      rfl
    have hnn : needF 30 = 1 := rfl
    rw [hnn] at hn0 hn1
    rw [hq]
    clear hq
    by_cases c1 : h = 1
    · have hb : (decide (h = 1) && decide (t = 0)) = decide (t = 0) := by simp [c1]
      rw [hb]
      clear hb
      by_cases c2 : t = 0
      · have hb : decide (t = 0) = true := by simp [c2]
        rw [hb]
        clear hb
        subst c1 c2
        go_enter Tryd.func17, Tryd.ntmps17
        go_wp2_with fail
        refine Calls.mono (HN.out 30 _) ?_
        rintro e w1 ⟨rfl, rfl⟩
        rw [hnn]
        go_wp2_with fail
        refine bodyPost_ret (v := .tuple #[.slice none 0 0, .bool true]) (by simp [results, Tryd.results17, go_sem, *]) rfl (wp_nil _)
      · have hb : decide (t = 0) = false := by simp [c2]
        rw [hb]
        clear hb
        subst c1
        go_enter Tryd.func17, Tryd.ntmps17
        go_wp2_with fail
        refine Calls.mono (HN.out 30 _) ?_
        rintro e w1 ⟨rfl, rfl⟩
        rw [hnn]
        go_wp2_with fail
        refine bodyPost_ret (v := .tuple #[.slice none 0 0, .bool false]) (by simp [results, Tryd.results17, go_sem, *]) rfl (wp_nil _)
    · have hb : (decide (h = 1) && decide (t = 0)) = false := by simp [c1]
      rw [hb]
      clear hb
      go_enter Tryd.func17, Tryd.ntmps17
      go_wp2_with fail
      refine Calls.mono (HN.out 30 _) ?_
      rintro e w1 ⟨rfl, rfl⟩
      rw [hnn]
      go_wp2_with fail
      refine bodyPost_ret (v := .tuple #[.slice none 0 0, .bool false]) (by simp [results, Tryd.results17, go_sem, *]) rfl (wp_nil _)
  · have hq : waysF i 31 a h t = ([], (decide (h = 1) && decide (t = 0))) := by
      unfold waysF
      rw [if_neg (by omega)]
      rfl
    have hnn : needF 31 = 1 := rfl
    rw [hnn] at hn0 hn1
    rw [hq]
    clear hq
    by_cases c1 : h = 1
    · have hb : (decide (h = 1) && decide (t = 0)) = decide (t = 0) := by simp [c1]
      rw [hb]
      clear hb
      by_cases c2 : t = 0
      · have hb : decide (t = 0) = true := by simp [c2]
        rw [hb]
        clear hb
        subst c1 c2
        go_enter Tryd.func17, Tryd.ntmps17
        go_wp2_with fail
        refine Calls.mono (HN.out 31 _) ?_
        rintro e w1 ⟨rfl, rfl⟩
        rw [hnn]
        go_wp2_with fail
        refine bodyPost_ret (v := .tuple #[.slice none 0 0, .bool true]) (by simp [results, Tryd.results17, go_sem, *]) rfl (wp_nil _)
      · have hb : decide (t = 0) = false := by simp [c2]
        rw [hb]
        clear hb
        subst c1
        go_enter Tryd.func17, Tryd.ntmps17
        go_wp2_with fail
        refine Calls.mono (HN.out 31 _) ?_
        rintro e w1 ⟨rfl, rfl⟩
        rw [hnn]
        go_wp2_with fail
        refine bodyPost_ret (v := .tuple #[.slice none 0 0, .bool false]) (by simp [results, Tryd.results17, go_sem, *]) rfl (wp_nil _)
    · have hb : (decide (h = 1) && decide (t = 0)) = false := by simp [c1]
      rw [hb]
      clear hb
      go_enter Tryd.func17, Tryd.ntmps17
      go_wp2_with fail
      refine Calls.mono (HN.out 31 _) ?_
      rintro e w1 ⟨rfl, rfl⟩
      rw [hnn]
      go_wp2_with fail
      refine bodyPost_ret (v := .tuple #[.slice none 0 0, .bool false]) (by simp [results, Tryd.results17, go_sem, *]) rfl (wp_nil _)
  · have hq : waysF i 32 a h t = ([((i : Int) + 1, h + 1, t)], true) := by
      unfold waysF
      rw [if_neg (by omega)]
      rfl
    have hnn : needF 32 = 1 := rfl
    rw [hnn] at hn0 hn1
    rw [hq]
    clear hq
    go_enter Tryd.func17, Tryd.ntmps17
    go_wp2_with fail
    refine Calls.mono (HN.out 32 _) ?_
    rintro e w1 ⟨rfl, rfl⟩
    rw [hnn]
    go_wp2_with fail
    refine bodyPost_ret (v := .tuple #[.slice (some ⟨w.heap.size + 1, 0, none⟩) 1 1, .bool (true)]) (by simp [results, Tryd.results17, go_sem, *]) rfl (wp_two rfl (by simp only [List.length_cons, List.length_nil]; omega))
  · have hq : waysF i 33 a h t = ([((i : Int) + 1, h - 1, t)], true) := by
      unfold waysF
      rw [if_neg (by omega)]
      rfl
    have hnn : needF 33 = 1 := rfl
    rw [hnn] at hn0 hn1
    rw [hq]
    clear hq
    go_enter Tryd.func17, Tryd.ntmps17
    go_wp2_with fail
    refine Calls.mono (HN.out 33 _) ?_
    rintro e w1 ⟨rfl, rfl⟩
    rw [hnn]
    go_wp2_with fail
    refine bodyPost_ret (v := .tuple #[.slice (some ⟨w.heap.size + 1, 0, none⟩) 1 1, .bool (true)]) (by simp [results, Tryd.results17, go_sem, *]) rfl (wp_two rfl (by simp only [List.length_cons, List.length_nil]; omega))
end Go.Proofs.YthfnjlfhaibbeaaDoor

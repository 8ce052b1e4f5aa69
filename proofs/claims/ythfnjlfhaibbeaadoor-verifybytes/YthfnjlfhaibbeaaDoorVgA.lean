/- Package verify: the document's below, Arg. -/
import Derived.Test.YthfnjlfhaibbeaaDoorVfA
namespace Go.Proofs.YthfnjlfhaibbeaaDoor
open Go.RowKit

set_option maxRecDepth 20000 in
theorem rbelow_c (a n : Int) (h0 : -9223372036854775808 ≤ n) (h1 : n ≤ 9223372036854775807) (w : World) : Calls Tryd.prog 48 #[.int .i64 a, .int .i64 n] w fun e w' => e = .returned (.bool (belowB a n)) ∧ w' = w := by
  have hw : IntKind.i64.wrap n = n := by rw [IntKind.wrap_i64]; omega
  by_cases h : 0 ≤ a
  · have h1 : belowB a n = decide (a < n) := by unfold belowB; simp [h]
    rw [h1]
    go_enter Tryd.func48, Tryd.ntmps48
    go_wp2_with fail
    go_ret
    exact ⟨rfl, rfl⟩
  · have h1 : belowB a n = false := by unfold belowB; simp; omega
    rw [h1]
    go_enter Tryd.func48, Tryd.ntmps48
    go_wp2_with fail
    go_ret
    exact ⟨rfl, rfl⟩
set_option maxHeartbeats 1000000 in
set_option maxRecDepth 20000 in
theorem rArg_c (g : PgP) (u : PgV) (op a : Int) (ha0 : -9223372036854775808 ≤ a) (ha1 : a ≤ 9223372036854775807) (w : World) (h : PgRd w g u) (ho : PgOk g) : Calls Tryd.prog 27 #[pgV g u, .agg #[.int .i64 op, .int .i64 a]] w fun e w' => e = .returned (.bool (argF g op a)) ∧ Below w.heap.size w w' := by
  have HK := chid h.k
  obtain ⟨a1, c1, e1, hc1, hc2⟩ := RowsK.shape h.k
  obtain ⟨a2, c2, e2, hd1, hd2⟩ := RowsK.shape h.wi
  obtain ⟨a3, c3, e3, hf1, hf2⟩ := RowsK.shape h.cr
  obtain ⟨a4, c4, e4, -⟩ := RowsK.shape h.c
  have hl := ho.loc
  have hl0 := hl.1
  have hl1 := hl.2
  obtain ⟨uk, uw, ur, uc⟩ := u
  simp only at e1 e2 e3 e4
  subst e1 e2 e3 e4
  have HB := chid (fun x n h0 h1 W => rbelow_c x n h0 h1 W)
  clear h ho hl
  by_cases q1 : op = 1
  · subst q1
    have hm : argF g 1 a = belowB a g.K.length := by simp [argF]
    rw [hm]
    clear HK hm
    go_enter Tryd.func27, Tryd.ntmps27
    go_wp2_with fail
    refine Calls.mono (HB.out _ _ (by omega) (by omega) _) ?_
    rintro e w1 ⟨rfl, rfl⟩
    go_wp2_with fail
    go_ret
    exact ⟨rfl, two_al _ _⟩
  by_cases q3 : op = 3
  · subst q3
    have hm : argF g 3 a = belowB a g.wins.length := by simp [argF]
    rw [hm]
    clear HK hm
    go_enter Tryd.func27, Tryd.ntmps27
    go_wp2_with fail
    refine Calls.mono (HB.out _ _ (by omega) (by omega) _) ?_
    rintro e w1 ⟨rfl, rfl⟩
    go_wp2_with fail
    go_ret
    exact ⟨rfl, two_al _ _⟩
  by_cases q4 : op = 4
  · subst q4
    have hm : argF g 4 a = belowB a g.crons.length := by simp [argF]
    rw [hm]
    clear HK hm
    go_enter Tryd.func27, Tryd.ntmps27
    go_wp2_with fail
    refine Calls.mono (HB.out _ _ (by omega) (by omega) _) ?_
    rintro e w1 ⟨rfl, rfl⟩
    go_wp2_with fail
    go_ret
    exact ⟨rfl, two_al _ _⟩
  by_cases q28 : op = 28
  · subst q28
    have hm : argF g 28 a = belowB a g.loc := by simp [argF]
    rw [hm]
    clear HK hm
    go_enter Tryd.func27, Tryd.ntmps27
    go_wp2_with fail
    refine Calls.mono (HB.out _ _ (by omega) (by omega) _) ?_
    rintro e w1 ⟨rfl, rfl⟩
    go_wp2_with fail
    go_ret
    exact ⟨rfl, two_al _ _⟩
  by_cases q5 : op = 5
  · subst q5
    have hm : argF g 5 a = (decide (1 ≤ a) && decide (a ≤ 3)) := by simp [argF]
    rw [hm]
    clear HK hm HB
    by_cases h1 : 1 ≤ a
    · have h2 : (decide (1 ≤ a) && decide (a ≤ 3)) = decide (a ≤ 3) := by simp [h1]
      rw [h2]
      clear h2
      go_enter Tryd.func27, Tryd.ntmps27
      go_wp2_with fail
      go_ret
      exact ⟨rfl, two_al _ _⟩
    · have h2 : (decide (1 ≤ a) && decide (a ≤ 3)) = false := by simp [h1]
      rw [h2]
      clear h2
      go_enter Tryd.func27, Tryd.ntmps27
      go_wp2_with fail
      go_ret
      exact ⟨rfl, two_al _ _⟩
  by_cases q27 : op = 27
  · subst q27
    have hm : argF g 27 a = (decide (0 ≤ a) && decide (a.tdiv 16384 < g.loc)) := by simp [argF]
    rw [hm]
    have d1 := Int.tmod_lt_of_pos a (show (0 : Int) < 16384 by omega)
    have d2 := Int.lt_tmod_of_pos a (show (0 : Int) < 16384 by omega)
    have d3 := Int.tmod_add_mul_tdiv a 16384
    have hw2 : IntKind.i64.wrap (a.tdiv 16384) = a.tdiv 16384 := by rw [IntKind.wrap_i64]; omega
    have hw3 : IntKind.i64.wrap g.loc = g.loc := by rw [IntKind.wrap_i64]; omega
    clear HK hm HB d1 d2 d3
    by_cases h1 : 0 ≤ a
    · have h2 : (decide (0 ≤ a) && decide (a.tdiv 16384 < g.loc)) = decide (a.tdiv 16384 < g.loc) := by simp [h1]
      rw [h2]
      clear h2
      go_enter Tryd.func27, Tryd.ntmps27
      go_wp2_with fail
      go_ret
      exact ⟨rfl, two_al _ _⟩
    · have h2 : (decide (0 ≤ a) && decide (a.tdiv 16384 < g.loc)) = false := by simp [h1]
      rw [h2]
      clear h2
      go_enter Tryd.func27, Tryd.ntmps27
      go_wp2_with fail
      go_ret
      exact ⟨rfl, two_al _ _⟩
  by_cases q23 : op = 23
  · subst q23
    have hm : argF g 23 a = true := by simp [argF]
    rw [hm]
    clear HK hm HB
    go_enter Tryd.func27, Tryd.ntmps27
    go_wp2_with fail
    go_ret
    exact ⟨rfl, two_al _ _⟩
  by_cases q24 : op = 24
  · subst q24
    have hm : argF g 24 a = true := by simp [argF]
    rw [hm]
    clear HK hm HB
    go_enter Tryd.func27, Tryd.ntmps27
    go_wp2_with fail
    go_ret
    exact ⟨rfl, two_al _ _⟩
  by_cases q25 : op = 25
  · subst q25
    have hm : argF g 25 a = true := by simp [argF]
    rw [hm]
    clear HK hm HB
    go_enter Tryd.func27, Tryd.ntmps27
    go_wp2_with fail
    go_ret
    exact ⟨rfl, two_al _ _⟩
  by_cases q26 : op = 26
  · subst q26
    have hm : argF g 26 a = true := by simp [argF]
    rw [hm]
    clear HK hm HB
    go_enter Tryd.func27, Tryd.ntmps27
    go_wp2_with fail
    go_ret
    exact ⟨rfl, two_al _ _⟩
  by_cases q11 : op = 11
  · subst q11
    have hm : argF g 11 a = (belowB a ((g.K.length : Int) - 1) && (decide (0 ≤ g.K.getD a.toNat 0) && decide (1 ≤ g.K.getD (a + 1).toNat 0))) := by simp [argF]
    rw [hm]
    have hw1 : IntKind.i64.wrap ((g.K.length : Int) - 1) = (g.K.length : Int) - 1 := by rw [IntKind.wrap_i64]; omega
    cases hb : belowB a ((g.K.length : Int) - 1) with
    | false =>
      have HB1 := chid (HB.out a ((g.K.length : Int) - 1) (by omega) (by omega))
      rw [hb] at HB1
      clear HB HK hb hm
      go_enter Tryd.func27, Tryd.ntmps27
      go_wp2_with fail
      refine Calls.mono (HB1.out _) ?_
      rintro e w1 ⟨rfl, rfl⟩
      go_wp2_with fail
      go_ret
      exact ⟨rfl, two_al _ _⟩
    | true =>
      have HB1 := chid (HB.out a ((g.K.length : Int) - 1) (by omega) (by omega))
      rw [hb] at HB1
      have hbb : 0 ≤ a ∧ a < (g.K.length : Int) - 1 := by unfold belowB at hb; simp at hb; omega
      obtain ⟨k, rfl⟩ : ∃ k : Nat, a = (k : Int) := ⟨a.toNat, by omega⟩
      obtain ⟨b, off, cap, hv, -, -, hbl, hx⟩ := RowsK.open HK.out (by omega)
      cases hv
      have y0 := hx k (by omega) 0 _ rfl
      have y1 := hx (k + 1) (by omega) 0 _ rfl
      rw [show off + k * 1 + 0 = off + k by omega] at y0
      rw [show off + (k + 1) * 1 + 0 = off + (k + 1) by omega] at y1
      rw [show ((k : Int)).toNat = k by omega, show ((k : Int) + 1).toNat = k + 1 by omega]
      have hk1 : (k : Int) + 1 < (g.K.length : Int) := by omega
      have hk0 : (k : Int) < (g.K.length : Int) := by omega
      have hw2 : IntKind.i64.wrap ((k : Int) + 1) = (k : Int) + 1 := by rw [IntKind.wrap_i64]; omega
      have hk2 : ((k : Int) + 1).toNat = k + 1 := by omega
      have hk3 : (0 : Int) ≤ (k : Int) + 1 := by omega
      clear HB hb hm hx
      generalize g.K.getD k 0 = v0 at *
      generalize g.K.getD (k + 1) 0 = v1 at *
      by_cases h1 : 0 ≤ v0
      · have h2 : (true && (decide (0 ≤ v0) && decide (1 ≤ v1))) = decide (1 ≤ v1) := by simp [h1]
        rw [h2]
        clear h2
        go_enter Tryd.func27, Tryd.ntmps27
        go_wp2_with fail
        refine Calls.mono (HB1.out _) ?_
        rintro e w1 ⟨rfl, rfl⟩
        go_wp2_with fail
        go_ret
        exact ⟨rfl, two_al _ _⟩
      · have h2 : (true && (decide (0 ≤ v0) && decide (1 ≤ v1))) = false := by simp [h1]
        rw [h2]
        clear h2
        go_enter Tryd.func27, Tryd.ntmps27
        go_wp2_with fail
        refine Calls.mono (HB1.out _) ?_
        rintro e w1 ⟨rfl, rfl⟩
        go_wp2_with fail
        go_ret
        exact ⟨rfl, two_al _ _⟩
  have hm : argF g op a = decide (a = 0) := by simp [argF, q1, q3, q4, q5, q11, q28, q27, q23, q24, q25, q26]
  rw [hm]
  clear hm HK HB
  go_enter Tryd.func27, Tryd.ntmps27
  go_wp2_with fail
  go_ret
  exact ⟨congrArg (fun b => Ending.returned (.bool b)) (by rw [Bool.eq_iff_iff]; simp), two_al _ _⟩
end Go.Proofs.YthfnjlfhaibbeaaDoor

/- The exported functions of package fix that multiply and divide (Mul, Div, Scale, Whole, Floor, Ceil, Count): each answers the exact number, rounded as it is told and held; of a division by words that it goes well is asked apart (DivOK). -/
import Derived.Test.YtkhdcojgcnomgaaGreatDoorWide2
namespace Go.Proofs.YtkhdcojgcnomgaaGreatDoor
open Go.RowKit

set_option maxHeartbeats 400000 in
theorem Mul_of (a b : Int) (a0 : -9223372036854775808 ≤ a) (a1 : a < 9223372036854775808) (b0 : -9223372036854775808 ≤ b) (b1 : b < 9223372036854775808) (hD : DivOK (a * b) 1000000) (w : World) :
    Calls Tryz.prog 92 #[.int .i64 a, .int .i64 b] w fun e w' => e = .returned (.int .i64 (held (a * b / 1000000))) ∧ Below w.heap.size w w' := by
  have hp := prod_bd a b a0 a1 b0 b1
  go_enter Tryz.func92, Tryz.ntmps92
  go_wp2_with fail
  refine (times_any a b a0 a1 b0 b1 _).mono ?_
  rintro e w1 ⟨lo1, hi1, rfl, r1, hb1⟩
  go_wp2_with fail
  refine (over_of lo1 hi1 _ 1000000 1000000 r1 (by omega) (by decide) (by decide) (by decide) (by decide) hD _).mono ?_
  rintro e w2 ⟨lo2, hi2, rfl, r2, hb2⟩
  go_wp2_with fail
  refine (hold_any lo2 hi2 _ r2 _).mono ?_
  rintro e w3 ⟨rfl, hb3⟩
  go_wp2_with fail
  go_ret
  exact ⟨rfl, below_two (below_two hb1 hb2) hb3⟩

set_option maxHeartbeats 400000 in
theorem Div_of (a b : Int) (a0 : -9223372036854775808 ≤ a) (a1 : a < 9223372036854775808) (b0 : -9223372036854775808 ≤ b) (b1 : b < 9223372036854775808) (hz : b ≠ 0) (hD : DivOK (a * 1000000) b.natAbs) (w : World) :
    Calls Tryz.prog 161 #[.int .i64 a, .int .i64 b] w fun e w' => e = .returned (.tuple #[.int .i64 (held (fl (a * 1000000) b)), .bool true]) ∧ Below w.heap.size w w' := by
  have hk : (b == 0) = false := beq_eq_false_iff_ne.2 hz
  have HZ : Hid _ := hz
  clear hz
  go_enter Tryz.func161, Tryz.ntmps161
  go_wp2_with fail
  refine (times_any a 1000000 a0 a1 (by decide) (by decide) _).mono ?_
  rintro e w1 ⟨lo1, hi1, rfl, r1, hb1⟩
  go_wp2_with fail
  refine (over_of lo1 hi1 _ b _ r1 (by omega) b0 b1 HZ.out rfl hD _).mono ?_
  rintro e w2 ⟨lo2, hi2, rfl, r2, hb2⟩
  go_wp2_with fail
  refine (hold_any lo2 hi2 _ r2 _).mono ?_
  rintro e w3 ⟨rfl, hb3⟩
  go_wp2_with fail
  go_ret2
  exact ⟨rfl, below_two (below_two hb1 hb2) hb3⟩
theorem Div_zero (a : Int) (w : World) :
    Calls Tryz.prog 161 #[.int .i64 a, .int .i64 0] w fun e w' => e = .returned (.tuple #[.int .i64 0, .bool false]) ∧ Below w.heap.size w w' := by
  go_enter Tryz.func161, Tryz.ntmps161
  go_wp2_with fail
  go_ret2
  exact ⟨rfl, Below.refl _ _⟩

set_option maxHeartbeats 400000 in
theorem Scale_of (a m d : Int) (a0 : -9223372036854775808 ≤ a) (a1 : a < 9223372036854775808) (m0 : 0 ≤ m) (m1 : m < 9223372036854775808) (d0 : 1 ≤ d) (d1 : d < 9223372036854775808) (hD : DivOK (a * m) d) (w : World) :
    Calls Tryz.prog 152 #[.int .i64 a, .int .i64 m, .int .i64 d] w fun e w' => e = .returned (.int .i64 (held (a * m / d))) ∧ Below w.heap.size w w' := by
  have hp := prod_bd a m a0 a1 (by omega) m1
  have e1 : fl (a * m) d = a * m / d := by unfold fl; rw [if_pos (by omega)]
  have E1 : Hid _ := e1
  clear e1
  have k1 : decide (m < 0) = false := by simp; omega
  have k2 : decide (d < 1) = false := by simp; omega
  go_enter Tryz.func152, Tryz.ntmps152
  go_wp2_with fail
  refine (times_any a m a0 a1 (by omega) m1 _).mono ?_
  rintro e w1 ⟨lo1, hi1, rfl, r1, hb1⟩
  go_wp2_with fail
  refine (over_of lo1 hi1 _ d d r1 (by omega) (by omega) d1 (by omega) (by omega) hD _).mono ?_
  rintro e w2 ⟨lo2, hi2, rfl, r2, hb2⟩
  go_wp2_with fail
  refine (hold_any lo2 hi2 _ r2 _).mono ?_
  rintro e w3 ⟨rfl, hb3⟩
  go_wp2_with fail
  go_ret
  exact ⟨ret_int (by rw [E1.out]), below_two (below_two hb1 hb2) hb3⟩
theorem Scale_none (a m d : Int) (h : m < 0 ∨ d < 1) (w : World) :
    Calls Tryz.prog 152 #[.int .i64 a, .int .i64 m, .int .i64 d] w fun e w' => e = .returned (.int .i64 0) ∧ Below w.heap.size w w' := by
  by_cases k : m < 0
  · clear h
    go_enter Tryz.func152, Tryz.ntmps152
    go_wp2_with fail
    go_ret
    exact ⟨rfl, Below.refl _ _⟩
  · have k2 : d < 1 := by omega
    clear h
    go_enter Tryz.func152, Tryz.ntmps152
    go_wp2_with fail
    go_ret
    exact ⟨rfl, Below.refl _ _⟩

set_option maxHeartbeats 400000 in
theorem Whole_any (n : Int) (n0 : -9223372036854775808 ≤ n) (n1 : n < 9223372036854775808) (w : World) :
    Calls Tryz.prog 147 #[.int .i64 n] w fun e w' => e = .returned (.int .i64 (held (n * 1000000))) ∧ Below w.heap.size w w' := by
  go_enter Tryz.func147, Tryz.ntmps147
  go_wp2_with fail
  refine (times_any n 1000000 n0 n1 (by decide) (by decide) _).mono ?_
  rintro e w1 ⟨lo1, hi1, rfl, r1, hb1⟩
  go_wp2_with fail
  refine (hold_any lo1 hi1 _ r1 _).mono ?_
  rintro e w3 ⟨rfl, hb3⟩
  go_wp2_with fail
  go_ret
  exact ⟨rfl, below_two hb1 hb3⟩

/-- Go's quotient and rest (cut toward 0), as the quotient rounded down. -/
theorem cut_down (a : Int) : (a.tmod 1000000 < 0 → a.tdiv 1000000 - 1 = a / 1000000) ∧ (¬ a.tmod 1000000 < 0 → a.tdiv 1000000 = a / 1000000) ∧ (0 < a.tmod 1000000 → a.tdiv 1000000 + 1 = -((-a) / 1000000)) ∧ (¬ 0 < a.tmod 1000000 → a.tdiv 1000000 = -((-a) / 1000000)) := by
  have h1 := Int.tdiv_mul_add_tmod a 1000000
  by_cases h : 0 ≤ a
  · have h2 := Int.tmod_nonneg 1000000 h
    have h3 := Int.tmod_lt_of_pos a (show (0 : Int) < 1000000 by decide)
    omega
  · have e1 : a.tmod 1000000 = -((-a).tmod 1000000) := by rw [Int.neg_tmod, Int.neg_neg]
    have h2 := Int.tmod_nonneg 1000000 (show 0 ≤ -a by omega)
    have h3 := Int.tmod_lt_of_pos (-a) (show (0 : Int) < 1000000 by decide)
    omega

set_option maxHeartbeats 400000 in
theorem wholes_any (a : Int) (a0 : -9223372036854775808 ≤ a) (a1 : a < 9223372036854775808) (w : World) :
    Calls Tryz.prog 151 #[.int .i64 a] w fun e w' => e = .returned (.int .i64 (a / 1000000)) ∧ Below w.heap.size w w' := by
  have C1 : Hid _ := (cut_down a).1
  have C2 : Hid _ := (cut_down a).2.1
  by_cases h : a.tmod 1000000 < 0
  · have l0 : -9223372036854775808 ≤ a.tdiv 1000000 - 1 := by rw [C1.out h]; omega
    have l1 : a.tdiv 1000000 - 1 ≤ 9223372036854775807 := by rw [C1.out h]; omega
    go_enter Tryz.func151, Tryz.ntmps151
    go_wp2_with fail
    go_ret
    exact ⟨ret_int (C1.out h), Below.refl _ _⟩
  · go_enter Tryz.func151, Tryz.ntmps151
    go_wp2_with fail
    go_ret
    exact ⟨ret_int (C2.out h), Below.refl _ _⟩

set_option maxHeartbeats 400000 in
theorem Ceil_any (a : Int) (a0 : -9223372036854775808 ≤ a) (a1 : a < 9223372036854775808) (w : World) :
    Calls Tryz.prog 85 #[.int .i64 a] w fun e w' => e = .returned (.int .i64 (held (-((-a) / 1000000) * 1000000))) ∧ Below w.heap.size w w' := by
  have C1 : Hid _ := (cut_down a).2.2.1
  have C2 : Hid _ := (cut_down a).2.2.2
  by_cases h : 0 < a.tmod 1000000
  · have l0 : -9223372036854775808 ≤ a.tdiv 1000000 + 1 := by rw [C1.out h]; omega
    have l1 : a.tdiv 1000000 + 1 ≤ 9223372036854775807 := by rw [C1.out h]; omega
    go_enter Tryz.func85, Tryz.ntmps85
    go_wp2_with fail
    rw [C1.out h]
    refine (Whole_any _ (by omega) (by omega) _).mono ?_
    rintro e w3 ⟨rfl, hb3⟩
    go_wp2_with fail
    go_ret
    exact ⟨rfl, hb3⟩
  · go_enter Tryz.func85, Tryz.ntmps85
    go_wp2_with fail
    rw [C2.out h]
    refine (Whole_any _ (by omega) (by omega) _).mono ?_
    rintro e w3 ⟨rfl, hb3⟩
    go_wp2_with fail
    go_ret
    exact ⟨rfl, hb3⟩

set_option maxHeartbeats 400000 in
theorem Count_any (a : Int) (a0 : -9223372036854775808 ≤ a) (a1 : a < 9223372036854775808) (w : World) :
    Calls Tryz.prog 162 #[.int .i64 a] w fun e w' => e = .returned (.int .i64 (held (-((-a) / 1000000) * 1000000) / 1000000)) ∧ Below w.heap.size w w' := by
  have hh := held_bd (-((-a) / 1000000) * 1000000)
  go_enter Tryz.func162, Tryz.ntmps162
  go_wp2_with fail
  refine (Ceil_any a a0 a1 _).mono ?_
  rintro e w1 ⟨rfl, hb1⟩
  go_wp2_with fail
  refine (wholes_any _ (by omega) (by omega) _).mono ?_
  rintro e w3 ⟨rfl, hb3⟩
  go_wp2_with fail
  go_ret
  exact ⟨rfl, below_two hb1 hb3⟩

theorem fl_awake : held (fl (-1 * 1000000) 3000000) = -1 := by decide
theorem mul_awake : held (1500000 * -1 / 1000000) = -2 := by decide
theorem count_awake : held (-((-1) / 1000000) * 1000000) / 1000000 = 1 := by decide
end Go.Proofs.YtkhdcojgcnomgaaGreatDoor

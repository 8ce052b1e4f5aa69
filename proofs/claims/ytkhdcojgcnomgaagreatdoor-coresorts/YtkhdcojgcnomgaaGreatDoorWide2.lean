/- Products and quotients of package fix on two words (Mul64, times, size, over), each held against the whole number. -/
import Derived.Test.YtkhdcojgcnomgaaGreatDoorWide1
import Derived.Laws.MathBits
import Derived.BigQuiet
namespace Go.Proofs.YtkhdcojgcnomgaaGreatDoor
open Go.RowKit

set_option maxHeartbeats 1000000 in
theorem mul64 (x y : Int) (x0 : 0 ≤ x) (x1 : x < 18446744073709551616) (y0 : 0 ≤ y) (y1 : y < 18446744073709551616) (w : World) :
    Calls Tryz.prog 180 #[.int .u64 x, .int .u64 y] w fun e w' => e = .returned (.tuple #[.int .u64 (x * y / 18446744073709551616), .int .u64 (x * y % 18446744073709551616)]) ∧ w' = w := by
  have hz : ∀ z : Int, bits .and .u64 (z % 18446744073709551616) 4294967295 = z % 18446744073709551616 % 4294967296 := fun z => and_low32 _ (by omega) (by omega)
  have hx := and_low32 x x0 x1
  have hy := and_low32 y y0 y1
  have ha := mul64_arith x y x0 x1 y0 y1
  have HZ : Hid _ := hz
  have HX : Hid _ := hx
  have HY : Hid _ := hy
  have HA : Hid _ := ha
  clear hz hx hy ha
  go_enter Tryz.func180, Tryz.ntmps180
  go_wp2
  simp only [HX.out, HY.out, IntKind.wrap_u64, HZ.out]
  rw [HA.out]
  go_ret2
  exact ⟨rfl, rfl⟩

set_option maxHeartbeats 400000 in
/-- Div64 where the high word is 0. -/
theorem div64_0 (x y : Int) (x0 : 0 ≤ x) (x1 : x < 18446744073709551616) (y0 : 0 < y) (w : World) :
    Calls Tryz.prog 179 #[.int .u64 0, .int .u64 x, .int .u64 y] w fun e w' => e = .returned (.tuple #[.int .u64 (x / y), .int .u64 (x % y)]) ∧ Below w.heap.size w w' := by
  have k1 : (y == 0) = false := beq_eq_false_iff_ne.2 (by omega)
  have k2 : ¬ y ≤ 0 := by omega
  go_enter Tryz.func179, Tryz.ntmps179
  go_wp2
  go_quiet (fail)
  go_wp2
  go_ret2
  exact ⟨rfl, ⟨rfl, rfl, rfl, Nat.le_refl _, fun _ _ => rfl⟩⟩

theorem rep_zero : Rep 0 0 0 := ⟨by decide, by decide, by decide, by decide, .inl ⟨by decide, by decide⟩⟩
/-- What 'size' answers. -/
def Sizes (w : World) (n : Int) (e : Ending) (w' : World) : Prop := ∃ lo hi, e = .returned (.tuple #[.agg #[.int .u64 lo, .int .u64 hi], .bool (decide (n < 0))]) ∧ Rep lo hi n.natAbs ∧ Below w.heap.size w w'

set_option maxHeartbeats 400000 in
theorem size_any (lo hi n : Int) (r : Rep lo hi n) (h0 : -170141183460469231731687303715884105728 < n) (w : World) :
    Calls Tryz.prog 178 #[.agg #[.int .u64 lo, .int .u64 hi]] w (Sizes w n) := by
  by_cases hn : n < 0
  · have hd : decide (n < 0) = true := by simpa using hn
    go_enter Tryz.func178, Tryz.ntmps178
    go_wp2_with fail
    refine (below0_any lo hi n r _).mono ?_
    rintro e w1 ⟨rfl, hb1⟩
    obtain ⟨hc, hf⟩ := bcell hb1
    have hz1 : w.heap.size + 1 < w1.heap.size := by have := hb1.size; simp at this; omega
    have hz0 : w.heap.size < w1.heap.size := by omega
    go_wp2_with fail
    refine (minus_any 0 0 lo hi 0 n rep_zero r (by omega) (by omega) _).mono ?_
    rintro e w2 ⟨lo2, hi2, rfl, r2, hb2⟩
    obtain ⟨hc2, hf2⟩ := bcell hb2
    go_wp2_with fail
    refine bodyPost_ret (v := .tuple #[.agg #[.int .u64 lo2, .int .u64 hi2], .bool true]) (by simp [results, Tryz.results178, go_sem, hc2, hc, hz1]) rfl ⟨lo2, hi2, by rw [hd], by rw [show ((n.natAbs : Nat) : Int) = 0 - n by omega]; exact r2, ?_⟩
    exact ((((((Below.refl _ _).alloc (Nat.le_refl _) _).alloc (by simp) _).trans (hb1.mono (by simp; omega))).trans (hb2.mono (by omega))).setCell (by simp) _).setCell (by simp) _
  · have hd : decide (n < 0) = false := by simpa using hn
    go_enter Tryz.func178, Tryz.ntmps178
    go_wp2_with fail
    refine (below0_any lo hi n r _).mono ?_
    rintro e w1 ⟨rfl, hb1⟩
    obtain ⟨hc, hf⟩ := bcell hb1
    have hz1 : w.heap.size + 1 < w1.heap.size := by have := hb1.size; simp at this; omega
    have hz0 : w.heap.size < w1.heap.size := by omega
    go_wp2_with fail
    refine bodyPost_ret (v := .tuple #[.agg #[.int .u64 lo, .int .u64 hi], .bool false]) (by simp [results, Tryz.results178, go_sem, hc]) rfl ⟨lo, hi, by rw [hd], by rw [show ((n.natAbs : Nat) : Int) = n by omega]; exact r, ?_⟩
    exact (((((Below.refl _ _).alloc (Nat.le_refl _) _).alloc (by simp) _).trans (hb1.mono (by simp; omega))).setCell (by simp) _).setCell (by simp) _

theorem prod_bd (a b : Int) (a0 : -9223372036854775808 ≤ a) (a1 : a < 9223372036854775808) (b0 : -9223372036854775808 ≤ b) (b1 : b < 9223372036854775808) :
    -85070591730234615865843651857942052864 ≤ a * b ∧ a * b ≤ 85070591730234615865843651857942052864 := by
  have h1 : (a.natAbs * b.natAbs : Nat) ≤ 9223372036854775808 * 9223372036854775808 := Nat.mul_le_mul (by omega) (by omega)
  rw [← Int.natAbs_mul] at h1
  omega
theorem mul_shift (a b : Int) : (a + 18446744073709551616) * (b + 18446744073709551616) = a * b + 18446744073709551616 * a + 18446744073709551616 * b + 340282366920938463463374607431768211456 := by grind
theorem mul_shift1 (a b : Int) : (a + 18446744073709551616) * b = a * b + 18446744073709551616 * b := by grind
theorem mul_shift2 (a b : Int) : a * (b + 18446744073709551616) = a * b + 18446744073709551616 * a := by grind
theorem mod_neg (a : Int) (h : a < 0) (a0 : -9223372036854775808 ≤ a) : a % 18446744073709551616 = a + 18446744073709551616 := by omega
theorem mod_pos (a : Int) (h : ¬ a < 0) (a1 : a < 9223372036854775808) : a % 18446744073709551616 = a := by omega

/-- The product's words, as the text reckons them. -/
theorem rep_times (a b : Int) (a0 : -9223372036854775808 ≤ a) (a1 : a < 9223372036854775808) (b0 : -9223372036854775808 ≤ b) (b1 : b < 9223372036854775808) :
    (a < 0 → b < 0 → Rep (a % 18446744073709551616 * (b % 18446744073709551616) % 18446744073709551616) (((a % 18446744073709551616 * (b % 18446744073709551616) / 18446744073709551616 - b % 18446744073709551616) % 18446744073709551616 - a % 18446744073709551616) % 18446744073709551616) (a * b)) ∧
    (a < 0 → ¬ b < 0 → Rep (a % 18446744073709551616 * (b % 18446744073709551616) % 18446744073709551616) ((a % 18446744073709551616 * (b % 18446744073709551616) / 18446744073709551616 - b % 18446744073709551616) % 18446744073709551616) (a * b)) ∧
    (¬ a < 0 → b < 0 → Rep (a % 18446744073709551616 * (b % 18446744073709551616) % 18446744073709551616) ((a % 18446744073709551616 * (b % 18446744073709551616) / 18446744073709551616 - a % 18446744073709551616) % 18446744073709551616) (a * b)) ∧
    (¬ a < 0 → ¬ b < 0 → Rep (a % 18446744073709551616 * (b % 18446744073709551616) % 18446744073709551616) (a % 18446744073709551616 * (b % 18446744073709551616) / 18446744073709551616) (a * b)) := by
  have hp := prod_bd a b a0 a1 b0 b1
  refine ⟨fun h k => ?_, fun h k => ?_, fun h k => ?_, fun h k => ?_⟩
  · have hq : 0 ≤ a * b := Int.mul_nonneg_of_nonpos_of_nonpos (by omega) (by omega)
    rw [mod_neg a h a0, mod_neg b k b0, mul_shift]
    generalize a * b = p at *
    exact ⟨by omega, by omega, by omega, by omega, .inl (by omega)⟩
  · have hq : a * b ≤ 0 := Int.mul_nonpos_of_nonpos_of_nonneg (by omega) (by omega)
    have hz : b = 0 → a * b = 0 := fun e => by rw [e, Int.mul_zero]
    have hn : b ≠ 0 → a * b < 0 := fun e => Int.mul_neg_of_neg_of_pos h (by omega)
    rw [mod_neg a h a0, mod_pos b k b1, mul_shift1]
    generalize a * b = p at *
    refine ⟨by omega, by omega, by omega, by omega, ?_⟩
    by_cases e : b = 0
    · have := hz e; exact .inl (by omega)
    · have := hn e; exact .inr (by omega)
  · have hq : a * b ≤ 0 := Int.mul_nonpos_of_nonneg_of_nonpos (by omega) (by omega)
    have hz : a = 0 → a * b = 0 := fun e => by rw [e, Int.zero_mul]
    have hn : a ≠ 0 → a * b < 0 := fun e => Int.mul_neg_of_pos_of_neg (by omega) k
    rw [mod_pos a h a1, mod_neg b k b0, mul_shift2]
    generalize a * b = p at *
    refine ⟨by omega, by omega, by omega, by omega, ?_⟩
    by_cases e : a = 0
    · have := hz e; exact .inl (by omega)
    · have := hn e; exact .inr (by omega)
  · have hq : 0 ≤ a * b := Int.mul_nonneg (by omega) (by omega)
    rw [mod_pos a h a1, mod_pos b k b1]
    generalize a * b = p at *
    exact ⟨by omega, by omega, by omega, by omega, .inl (by omega)⟩

theorem wrap_word (a : Int) : 0 ≤ IntKind.u64.wrap a ∧ IntKind.u64.wrap a < 18446744073709551616 := by rw [IntKind.wrap_u64]; omega

set_option maxHeartbeats 400000 in
theorem times_any (a b : Int) (a0 : -9223372036854775808 ≤ a) (a1 : a < 9223372036854775808) (b0 : -9223372036854775808 ≤ b) (b1 : b < 9223372036854775808) (w : World) :
    Calls Tryz.prog 160 #[.int .i64 a, .int .i64 b] w (Gives w (a * b)) := by
  obtain ⟨r1, r2, r3, r4⟩ := rep_times a b a0 a1 b0 b1
  by_cases h : a < 0 <;> by_cases k : b < 0
  · have r : Rep (IntKind.u64.wrap a * IntKind.u64.wrap b % 18446744073709551616) (IntKind.u64.wrap (IntKind.u64.wrap (IntKind.u64.wrap a * IntKind.u64.wrap b / 18446744073709551616 - IntKind.u64.wrap b) - IntKind.u64.wrap a)) (a * b) := by simpa only [IntKind.wrap_u64] using r1 h k
    go_enter Tryz.func160, Tryz.ntmps160
    go_wp2_with fail
    refine (mul64 _ _ (wrap_word _).1 (wrap_word _).2 (wrap_word _).1 (wrap_word _).2 _).mono ?_
    rintro e w1 ⟨rfl, rfl⟩
    go_wp2_with fail
    refine bodyPost_ret (v := .agg #[.int .u64 (IntKind.u64.wrap a * IntKind.u64.wrap b % 18446744073709551616), .int .u64 (IntKind.u64.wrap (IntKind.u64.wrap (IntKind.u64.wrap a * IntKind.u64.wrap b / 18446744073709551616 - IntKind.u64.wrap b) - IntKind.u64.wrap a))]) (by simp [results, Tryz.results160, go_sem]) rfl ⟨_, _, rfl, r, ?_⟩
    exact (Below.refl _ _).alloc (Nat.le_refl _) _
  · have r : Rep (IntKind.u64.wrap a * b % 18446744073709551616) (IntKind.u64.wrap (IntKind.u64.wrap a * b / 18446744073709551616 - b)) (a * b) := by simpa only [IntKind.wrap_u64, mod_pos b k b1] using r2 h k
    go_enter Tryz.func160, Tryz.ntmps160
    go_wp2_with fail
    refine (mul64 _ _ (wrap_word _).1 (wrap_word _).2 (by omega) (by omega) _).mono ?_
    rintro e w1 ⟨rfl, rfl⟩
    go_wp2_with fail
    refine bodyPost_ret (v := .agg #[.int .u64 (IntKind.u64.wrap a * b % 18446744073709551616), .int .u64 (IntKind.u64.wrap (IntKind.u64.wrap a * b / 18446744073709551616 - b))]) (by simp [results, Tryz.results160, go_sem]) rfl ⟨_, _, rfl, r, ?_⟩
    exact (Below.refl _ _).alloc (Nat.le_refl _) _
  · have r : Rep (a * IntKind.u64.wrap b % 18446744073709551616) (IntKind.u64.wrap (a * IntKind.u64.wrap b / 18446744073709551616 - a)) (a * b) := by simpa only [IntKind.wrap_u64, mod_pos a h a1] using r3 h k
    go_enter Tryz.func160, Tryz.ntmps160
    go_wp2_with fail
    refine (mul64 _ _ (by omega) (by omega) (wrap_word _).1 (wrap_word _).2 _).mono ?_
    rintro e w1 ⟨rfl, rfl⟩
    go_wp2_with fail
    refine bodyPost_ret (v := .agg #[.int .u64 (a * IntKind.u64.wrap b % 18446744073709551616), .int .u64 (IntKind.u64.wrap (a * IntKind.u64.wrap b / 18446744073709551616 - a))]) (by simp [results, Tryz.results160, go_sem]) rfl ⟨_, _, rfl, r, ?_⟩
    exact (Below.refl _ _).alloc (Nat.le_refl _) _
  · have r : Rep (a * b % 18446744073709551616) (a * b / 18446744073709551616) (a * b) := by simpa only [IntKind.wrap_u64, mod_pos a h a1, mod_pos b k b1] using r4 h k
    go_enter Tryz.func160, Tryz.ntmps160
    go_wp2_with fail
    refine (mul64 _ _ (by omega) (by omega) (by omega) (by omega) _).mono ?_
    rintro e w1 ⟨rfl, rfl⟩
    go_wp2_with fail
    refine bodyPost_ret (v := .agg #[.int .u64 (a * b % 18446744073709551616), .int .u64 (a * b / 18446744073709551616)]) (by simp [results, Tryz.results160, go_sem]) rfl ⟨_, _, rfl, r, ?_⟩
    exact (Below.refl _ _).alloc (Nat.le_refl _) _

/-- Rounded down. -/
def fl (n d : Int) : Int := if 0 < d then n / d else (-n) / (-d)

/-- x divided by D: q, and r is left over; q is a word. -/
structure Quo (x D q r : Int) : Prop where
  eq : x = q * D + r
  r0 : 0 ≤ r
  r1 : r < D
  q0 : 0 ≤ q
  q1 : q < 18446744073709551616

theorem quo_of (x D : Int) (x0 : 0 ≤ x) (x1 : x < 18446744073709551616) (h : 0 < D) : Quo x D (x / D) (x % D) := by
  have h0 := Int.ediv_nonneg x0 (Int.le_of_lt h)
  have h1 := Int.ediv_le_self D x0
  have h2 := Int.ediv_mul_add_emod x D
  exact ⟨h2.symm, Int.emod_nonneg _ (by omega), Int.emod_lt_of_pos _ h, h0, by omega⟩
theorem div64_z (x y : Int) (x0 : 0 ≤ x) (x1 : x < 18446744073709551616) (y0 : 0 < y) (w : World) :
    Calls Tryz.prog 179 #[.int .u64 0, .int .u64 x, .int .u64 y] w fun e w' => ∃ q r, e = .returned (.tuple #[.int .u64 q, .int .u64 r]) ∧ Quo x y q r ∧ Below w.heap.size w w' := by
  refine (div64_0 x y x0 x1 y0 w).mono ?_
  rintro e w' ⟨rfl, hb⟩
  exact ⟨_, _, rfl, quo_of x y x0 x1 y0, hb⟩

theorem ediv_is {n D q r : Int} (h : n = q * D + r) (r0 : 0 ≤ r) (r1 : r < D) : n / D = q := by
  subst h
  rw [Int.add_comm, Int.add_mul_ediv_right _ _ (by omega), Int.ediv_eq_zero_of_lt r0 r1, Int.zero_add]
theorem whole_quo {t0 t1 N D q1 r1 q0 r0 : Int} (rt : Rep t0 t1 N) (h1 : Quo t1 D q1 r1) (h0 : Quo (r1 * 18446744073709551616 + t0) D q0 r0) : N ≤ 170141183460469231731687303715884105727 → 0 ≤ N →
    Rep q0 q1 (q0 + 18446744073709551616 * q1) ∧ N = (q0 + 18446744073709551616 * q1) * D + r0 ∧ q0 + 18446744073709551616 * q1 ≤ N ∧ (r0 ≠ 0 → q0 + 18446744073709551616 * q1 < N) := by
  intro hN hN0
  obtain ⟨a1, a2, a3, a4, a5⟩ := rt
  obtain ⟨b1, b2, b3, b4, b5⟩ := h1
  obtain ⟨c1, c2, c3, c4, c5⟩ := h0
  have ht : t1 < 9223372036854775808 ∧ N = t0 + 18446744073709551616 * t1 := by
    rcases a5 with a5 | ⟨_, a5⟩
    · exact a5
    · omega
  have hD : 1 ≤ D := by omega
  have e1 : q1 * 1 ≤ q1 * D := Int.mul_le_mul_of_nonneg_left hD b4
  have eN : N = (q0 + 18446744073709551616 * q1) * D + r0 := by
    rw [Int.add_mul, Int.mul_assoc]
    generalize q1 * D = x at *
    generalize q0 * D = y at *
    omega
  have eQ : (q0 + 18446744073709551616 * q1) * 1 ≤ (q0 + 18446744073709551616 * q1) * D := Int.mul_le_mul_of_nonneg_left hD (by omega)
  refine ⟨⟨c4, c5, b4, b5, .inl ⟨by omega, rfl⟩⟩, eN, by omega, fun hr => by omega⟩
theorem fl_same {n d D Q r : Int} (hs : decide (n < 0) = decide (d < 0)) (dz : d ≠ 0) (eD : D = d.natAbs) (h : ((n.natAbs : Nat) : Int) = Q * D + r) (r0 : 0 ≤ r) (r1 : r < D) : fl n d = Q := by
  unfold fl
  by_cases hd : 0 < d
  · have : ¬ n < 0 := by
      have h2 : decide (d < 0) = false := by simp; omega
      rw [h2] at hs; simpa using hs
    rw [if_pos hd]
    have e : D = d := by omega
    subst e
    exact ediv_is (by omega) r0 r1
  · have : n < 0 := by
      have h2 : decide (d < 0) = true := by simp; omega
      rw [h2] at hs; simpa using hs
    rw [if_neg hd]
    have e : D = -d := by omega
    subst e
    exact ediv_is (by omega) r0 r1
theorem fl_other {n d D Q r : Int} (hs : decide (n < 0) ≠ decide (d < 0)) (dz : d ≠ 0) (eD : D = d.natAbs) (h : ((n.natAbs : Nat) : Int) = Q * D + r) (r0 : 0 ≤ r) (r1 : r < D) : fl n d = if r = 0 then -Q else -(Q + 1) := by
  have key : ∀ m : Int, m = -(Q * D + r) → m / D = if r = 0 then -Q else -(Q + 1) := by
    intro m hm
    split
    · exact ediv_is (r := 0) (by rw [Int.neg_mul]; omega) (by omega) (by omega)
    · exact ediv_is (r := D - r) (by rw [Int.neg_mul, Int.add_mul]; omega) (by omega) (by omega)
  unfold fl
  by_cases hd : 0 < d
  · have : n < 0 := by
      have h2 : decide (d < 0) = false := by simp; omega
      rw [h2] at hs; simpa using hs
    rw [if_pos hd]
    have e : D = d := by omega
    subst e
    exact key n (by omega)
  · have : ¬ n < 0 := by
      have h2 : decide (d < 0) = true := by simp; omega
      rw [h2] at hs; simpa using hs
    rw [if_neg hd]
    have e : D = -d := by omega
    subst e
    exact key (-n) (by omega)

/-- The second of the two divisions by words that 'over' makes goes well. -/
def DivOK (n D : Int) : Prop := ∀ x1 x0 q1 r1 w, Rep x0 x1 n.natAbs → Quo x1 D q1 r1 →
  Calls Tryz.prog 179 #[.int .u64 r1, .int .u64 x0, .int .u64 D] w fun e w' => ∃ q r, e = .returned (.tuple #[.int .u64 q, .int .u64 r]) ∧ Quo (r1 * 18446744073709551616 + x0) D q r ∧ Below w.heap.size w w'
theorem divOK_small (n D : Int) (h0 : -18446744073709551616 < n) (h1 : n < 18446744073709551616) (hD : 0 < D) : DivOK n D := by
  intro x1 x0 q1 r1 w rx hq
  have e1 : x1 = 0 := by
    obtain ⟨a1, a2, a3, a4, a5⟩ := rx
    rcases a5 with ⟨_, a5⟩ | ⟨_, a5⟩ <;> omega
  have e2 : r1 = 0 := by
    obtain ⟨b1, b2, b3, b4, b5⟩ := hq
    have : 0 ≤ q1 * D := Int.mul_nonneg b4 (by omega)
    omega
  subst e2
  rw [Int.zero_mul, Int.zero_add]
  exact div64_z x0 D rx.lo0 rx.lo1 hD w

set_option maxHeartbeats 1000000 in
theorem over_of (lo hi n d D : Int) (r : Rep lo hi n) (h0 : -170141183460469231731687303715884105728 < n) (d0 : -9223372036854775808 ≤ d) (d1 : d < 9223372036854775808) (dz : d ≠ 0) (eD : D = d.natAbs)
    (hD : DivOK n D)
    (w : World) :
    Calls Tryz.prog 159 #[.agg #[.int .u64 lo, .int .u64 hi], .int .i64 d] w (Gives w (fl n d)) := by
  have HD : Hid _ := hD
  have ED : Hid _ := eD
  clear hD
  have k3 : 0 < D := by omega
  have k4 : D ≤ 9223372036854775808 := by omega
  have k5 : -170141183460469231731687303715884105728 < d := by omega
  have rD : Rep D 0 d.natAbs := by rw [← eD]; exact ⟨by omega, by omega, by decide, by decide, .inl (by omega)⟩
  have hN : ((n.natAbs : Nat) : Int) ≤ 170141183460469231731687303715884105727 := by have := r.bounds; omega
  clear eD
  go_enter Tryz.func159, Tryz.ntmps159
  go_wp2_with fail
  refine (size_any lo hi n r h0 _).mono ?_
  rintro e w1 ⟨t0, t1, rfl, rt, hb1⟩
  obtain ⟨hc1, hf1⟩ := bcell hb1
  have hz1 : w.heap.size + 1 < w1.heap.size := by have := hb1.size; simp at this; omega
  have hz0 : w.heap.size < w1.heap.size := by omega
  go_wp2_with fail
  refine (widen_any d d0 d1 _).mono ?_
  rintro e w2 ⟨l2, g2, rfl, r2, hb2⟩
  obtain ⟨hc2, hf2⟩ := bcell hb2
  have hz2 : w1.heap.size < w2.heap.size := by have := hb2.size; simp at this; omega
  go_wp2_with fail
  refine (size_any l2 g2 d r2 k5 _).mono ?_
  rintro e w3 ⟨b0, b1, rfl, rb, hb3⟩
  obtain ⟨hc3, hf3⟩ := bcell hb3
  have hz3 : w1.heap.size < w3.heap.size := by have := hb3.size; omega
  obtain ⟨eb0, eb1⟩ : b0 = D ∧ b1 = 0 := Rep.unique rb rD
  subst eb0; subst eb1
  generalize hsn : decide (n < 0) = sn
  generalize hsd : decide (d < 0) = sd
  have HSN : Hid _ := hsn
  have HSD : Hid _ := hsd
  clear hsn hsd
  have k1 : (0 : Int) ≤ t1 := rt.hi0
  have k2 : t1 < 18446744073709551616 := rt.hi1
  go_wp2_with fail
  refine (div64_z t1 _ k1 k2 k3 _).mono ?_
  rintro e w4 ⟨q1, r1, rfl, hq1, hb4⟩
  obtain ⟨hc4, hf4⟩ := bcell hb4
  have hz4 : w3.heap.size < w4.heap.size := by have := hb4.size; simp at this; omega
  have hz4' : w1.heap.size < w4.heap.size := by omega
  go_wp2_with fail
  refine (HD.out t1 t0 q1 r1 _ rt hq1).mono ?_
  rintro e w5 ⟨q0, r0, rfl, hq0, hb5⟩
  obtain ⟨hc5, hf5⟩ := bcell hb5
  have hz5 : w.heap.size + 1 < w5.heap.size := by have := hb5.size; omega
  have hy2 : w.heap.size + 1 < w2.heap.size := by omega
  have hy3 : w.heap.size + 1 < w3.heap.size := by omega
  have hy4 : w.heap.size + 1 < w4.heap.size := by omega
  have hR : Below (w.heap.size + 2) ((w.alloc (.cells #[.int .u64 lo, .int .u64 hi] 157)).alloc (.cells #[.int .u64 0, .int .u64 0] 157)) w5 :=
    ((((hb1.mono (by simp)).alloc (by omega) _).trans ((hb2.mono (by simp; omega)).trans (hb3.mono (by omega)))).alloc (by omega) _).trans ((hb4.mono (by simp; omega)).trans (hb5.mono (by omega)))
  have hall : Below w.heap.size w w5 := (((Below.refl _ _).alloc (Nat.le_refl _) _).alloc (by simp) _).trans (hR.mono (by omega))
  have cR0 := hR.cell (p := ⟨w.heap.size + 1, 0, none⟩) (by simp)
  have cR1 := hR.cell (p := ⟨w.heap.size + 1, 1, none⟩) (by simp)
  have fR0 := hR.frozen (p := ⟨w.heap.size + 1, 0, none⟩) (by simp)
  have fR1 := hR.frozen (p := ⟨w.heap.size + 1, 1, none⟩) (by simp)
  simp [go_sem] at cR0 cR1 fR0 fR1
  clear hR hc1 hc2 hc3 hc4 hc5 hf1 hf2 hf3 hf4 hf5
  obtain ⟨rQ, eN, bQ, bQ'⟩ := whole_quo rt hq1 hq0 hN (by omega)
  have EN : Hid _ := eN
  clear eN
  have HQ : Hid _ := bQ'
  clear bQ'
  have kq0 := hq0.q0
  have kq1 := hq1.q0
  by_cases hs : sn = sd
  · subst hs
    have e1 : fl n d = q0 + 18446744073709551616 * q1 := fl_same (HSN.out.trans HSD.out.symm) dz ED.out EN.out hq0.r0 hq0.r1
    have E1 : Hid _ := e1
    clear e1
    go_wp2_with fail
    refine bodyPost_ret (v := .agg #[.int .u64 q0, .int .u64 q1]) (by simp [results, Tryz.results159, go_sem, cR0, cR1, hz5]) rfl ⟨_, _, rfl, by rw [E1.out]; exact rQ, ?_⟩
    exact ((hall.setCell (by simp) _).setCell (by simp) _).alloc (by simp [go_sem]; omega) _
  · have hq : (sn == sd) = false := by simpa using hs
    have hne : decide (n < 0) ≠ decide (d < 0) := fun e => hs (HSN.out.symm.trans (e.trans HSD.out))
    have e1 := fl_other hne dz ED.out EN.out hq0.r0 hq0.r1
    have HS : Hid _ := hs
    have HNE : Hid _ := hne
    clear hs hne
    by_cases hr : r0 = 0
    · rw [if_pos hr] at e1
      have E1 : Hid _ := e1
      clear e1
      subst hr
      go_wp2_with fail
      refine (minus_any 0 0 q0 q1 0 _ rep_zero rQ (by omega) (by omega) _).mono ?_
      rintro e w6 ⟨q0', q1', rfl, rQ', hb6⟩
      have dR0 := hb6.cell (p := ⟨w.heap.size + 1, 0, none⟩) (by simp; omega)
      have dR1 := hb6.cell (p := ⟨w.heap.size + 1, 1, none⟩) (by simp; omega)
      have gR0 := hb6.frozen (p := ⟨w.heap.size + 1, 0, none⟩) (by simp; omega)
      have gR1 := hb6.frozen (p := ⟨w.heap.size + 1, 1, none⟩) (by simp; omega)
      simp [go_sem, cR0, cR1, fR0, fR1, hz5] at dR0 dR1 gR0 gR1
      go_wp2_with fail
      refine bodyPost_ret (v := .agg #[.int .u64 q0', .int .u64 q1']) (by simp [results, Tryz.results159, go_sem, dR0, dR1]) rfl ⟨_, _, rfl, by rw [E1.out, ← Int.zero_sub]; exact rQ', ?_⟩
      exact (((hall.alloc (by omega) _).trans (hb6.mono (by simp; omega))).setCell (by simp) _).setCell (by simp) _
    · rw [if_neg hr] at e1
      have E1 : Hid _ := e1
      clear e1
      have hr' : (r0 != 0) = true := by simpa using hr
      have hQ := HQ.out hr
      go_wp2_with fail
      refine (plus_any q0 q1 1 0 _ 1 rQ ⟨by decide, by decide, by decide, by decide, .inl ⟨by decide, by decide⟩⟩ (by omega) (by omega) _).mono ?_
      rintro e w6 ⟨p0, p1, rfl, rP, hb6⟩
      have dR0 := hb6.cell (p := ⟨w.heap.size + 1, 0, none⟩) (by simp; omega)
      have dR1 := hb6.cell (p := ⟨w.heap.size + 1, 1, none⟩) (by simp; omega)
      have gR0 := hb6.frozen (p := ⟨w.heap.size + 1, 0, none⟩) (by simp; omega)
      have gR1 := hb6.frozen (p := ⟨w.heap.size + 1, 1, none⟩) (by simp; omega)
      have dQ0 := hb6.cell (p := ⟨w5.heap.size, 0, none⟩) (by simp)
      have dQ1 := hb6.cell (p := ⟨w5.heap.size, 1, none⟩) (by simp)
      have gQ0 := hb6.frozen (p := ⟨w5.heap.size, 0, none⟩) (by simp)
      have gQ1 := hb6.frozen (p := ⟨w5.heap.size, 1, none⟩) (by simp)
      simp [go_sem, cR0, cR1, fR0, fR1, hz5] at dR0 dR1 gR0 gR1 dQ0 dQ1 gQ0 gQ1
      have hne : w.heap.size + 1 ≠ w5.heap.size := by omega
      have hz6 : w.heap.size + 1 < w6.heap.size := by have := hb6.size; simp at this; omega
      clear cR0 cR1 fR0 fR1
      go_wp2_with fail
      refine (minus_any 0 0 p0 p1 0 _ rep_zero rP (by omega) (by omega) _).mono ?_
      rintro e w7 ⟨q0', q1', rfl, rQ', hb7⟩
      have dR0' := hb7.cell (p := ⟨w.heap.size + 1, 0, none⟩) (by simp [go_sem]; omega)
      have dR1' := hb7.cell (p := ⟨w.heap.size + 1, 1, none⟩) (by simp [go_sem]; omega)
      have gR0' := hb7.frozen (p := ⟨w.heap.size + 1, 0, none⟩) (by simp [go_sem]; omega)
      have gR1' := hb7.frozen (p := ⟨w.heap.size + 1, 1, none⟩) (by simp [go_sem]; omega)
      simp [go_sem, dR0, dR1, gR0, gR1] at dR0' dR1' gR0' gR1'
      go_wp2_with fail
      refine bodyPost_ret (v := .agg #[.int .u64 q0', .int .u64 q1']) (by simp [results, Tryz.results159, go_sem, dR0', dR1']) rfl ⟨_, _, rfl, by rw [E1.out, ← Int.zero_sub]; exact rQ', ?_⟩
      exact (((((((hall.alloc (by omega) _).trans (hb6.mono (by simp; omega))).setCell (by simp; omega) _).setCell (by simp; omega) _)).trans (hb7.mono (by simp [go_sem]; omega))).setCell (by simp) _).setCell (by simp) _
end Go.Proofs.YtkhdcojgcnomgaaGreatDoor

/- The statement FixBack: the walk of her Go text, out of the contracts of package fix. -/
import Derived.Test.YtbmdocdcinfbfabFix2
import Derived.OpenShut
namespace Go.Proofs.Ytbmdocdcinfbfab
open Go.RowKit

theorem back_bd (a b : Int) (a0 : -2147483648 ≤ a) (a1 : a ≤ 2147483647) (b0 : -2147483648 ≤ b) (b1 : b ≤ 2147483648) : -4611686018427387904 ≤ a * b ∧ a * b ≤ 4611686018427387904 := by
  have h1 : (a.natAbs * b.natAbs : Nat) ≤ 2147483648 * 2147483648 := Nat.mul_le_mul (by omega) (by omega)
  rw [← Int.natAbs_mul] at h1
  omega
/-- The quotient, rounded down, and what is left. -/
theorem back_rest (a b : Int) (a0 : -2147483648 ≤ a) (a1 : a ≤ 2147483647) (b0 : -2147483648 ≤ b) (b1 : b ≤ 2147483647) :
    (0 < b → 0 ≤ a * 1000000 - held (fl (a * 1000000) b) * b ∧ a * 1000000 - held (fl (a * 1000000) b) * b < b) ∧
    (b < 0 → 0 ≤ -(a * 1000000 - held (fl (a * 1000000) b) * b) ∧ -(a * 1000000 - held (fl (a * 1000000) b) * b) < -b) := by
  have key : ∀ n d : Int, 0 < d → -2147483648000000 ≤ n → n ≤ 2147483648000000 → held (n / d) = n / d ∧ 0 ≤ n - n / d * d ∧ n - n / d * d < d := by
    intro n d hd n0 n1
    have h1 := Int.ediv_mul_add_emod n d
    have h2 := Int.emod_nonneg n (show d ≠ 0 by omega)
    have h3 := Int.emod_lt_of_pos n hd
    have h4 : n / d ≤ 2147483648000000 := Int.ediv_le_of_le_mul hd (by
      have : 2147483648000000 * 1 ≤ 2147483648000000 * d := Int.mul_le_mul_of_nonneg_left (by omega) (by decide)
      omega)
    have h5 : -2147483648000000 ≤ n / d := Int.le_ediv_of_mul_le hd (by
      have : 2147483648000000 * 1 ≤ 2147483648000000 * d := Int.mul_le_mul_of_nonneg_left (by omega) (by decide)
      omega)
    exact ⟨held_in _ (by omega) (by omega), by omega, by omega⟩
  constructor
  · intro hb
    have e : fl (a * 1000000) b = a * 1000000 / b := by unfold fl; rw [if_pos hb]
    obtain ⟨k1, k2, k3⟩ := key (a * 1000000) b hb (by omega) (by omega)
    rw [e, k1]
    exact ⟨k2, k3⟩
  · intro hb
    have e : fl (a * 1000000) b = -(a * 1000000) / -b := by unfold fl; rw [if_neg (by omega)]
    obtain ⟨k1, k2, k3⟩ := key (-(a * 1000000)) (-b) (by omega) (by omega) (by omega)
    rw [e, k1]
    rw [Int.mul_neg] at k2 k3
    exact ⟨by omega, by omega⟩
theorem scale_back (a m : Int) (h : 0 < m) (a0 : -2147483648 ≤ a) (a1 : a ≤ 2147483647) : held (a * m / m) = a := by
  rw [Int.mul_ediv_cancel _ (by omega)]
  exact held_in _ (by omega) (by omega)
set_option maxHeartbeats 400000 in
theorem fixBack_walk (a b : Int) (ha : (Lit.int .i32 a).wf = true) (hb : (Lit.int .i32 b).wf = true) (w : World) :
    Calls Try.prog 3 #[.int .i32 a, .int .i32 b] w fun e w' => e = .returned (.bool true) ∧ Below w.heap.size w w' := by
  have a0 := (bounds_i32 ha).1
  have a1 := (bounds_i32 ha).2
  have b0 := (bounds_i32 hb).1
  have b1 := (bounds_i32 hb).2
  clear ha hb
  by_cases hz : b = 0
  · subst hz
    go_enter Try.func3, Try.ntmps3
    go_wp2_with fail
    refine (awake_any _).mono ?_
    rintro e w1 ⟨rfl, hb1⟩
    go_wp2_with fail
    refine (Div_zero a _).mono ?_
    rintro e w2 ⟨rfl, hb2⟩
    go_wp2_with fail
    go_ret
    exact ⟨rfl, below_two hb1 hb2⟩
  · have hk : (b == 0) = false := beq_eq_false_iff_ne.2 hz
    have HZ : Hid _ := hz
    clear hz
    have l0 : -9223372036854775808 ≤ a := by omega
    have l1 : a < 9223372036854775808 := by omega
    have m0 : -9223372036854775808 ≤ b := by omega
    have m1 : b < 9223372036854775808 := by omega
    have R1 : Hid _ := (back_rest a b a0 a1 b0 b1).1
    have R2 : Hid _ := (back_rest a b a0 a1 b0 b1).2
    have hD : DivOK (a * 1000000) b.natAbs := divOK_small _ _ (by omega) (by omega) (by have : b ≠ 0 := HZ.out; omega)
    by_cases hs : b < 0
    · have r2 := R2.out hs
      have hp := back_bd a (-b) a0 a1 (by omega) (by omega)
      have hS : DivOK (a * -b) (-b) := divOK_small _ _ (by omega) (by omega) (by omega)
      go_enter Try.func3, Try.ntmps3
      go_wp2_with fail
      refine (awake_any _).mono ?_
      rintro e w1 ⟨rfl, hb1⟩
      go_wp2_with fail
      refine (Div_of a b l0 l1 m0 m1 HZ.out hD _).mono ?_
      generalize held (fl (a * 1000000) b) = q at *
      rintro e w2 ⟨rfl, hb2⟩
      obtain ⟨r3, r4⟩ := r2
      have k0 : -9223372036854775808 ≤ q * b := by omega
      have k1 : q * b ≤ 9223372036854775807 := by omega
      go_wp2_with fail
      refine (Scale_of a (-b) (-b) l0 l1 (by omega) (by omega) (by omega) (by omega) hS _).mono ?_
      rw [scale_back a (-b) (by omega) a0 a1]
      rintro e w3 ⟨rfl, hb3⟩
      go_wp2_with fail
      go_ret
      exact ⟨rfl, below_two (below_two hb1 hb2) hb3⟩
    · have hs' : 0 < b := by have : b ≠ 0 := HZ.out; omega
      have r2 := R1.out hs'
      have hp := back_bd a b a0 a1 (by omega) (by omega)
      have hS : DivOK (a * b) b := divOK_small _ _ (by omega) (by omega) (by omega)
      go_enter Try.func3, Try.ntmps3
      go_wp2_with fail
      refine (awake_any _).mono ?_
      rintro e w1 ⟨rfl, hb1⟩
      go_wp2_with fail
      refine (Div_of a b l0 l1 m0 m1 HZ.out hD _).mono ?_
      generalize held (fl (a * 1000000) b) = q at *
      rintro e w2 ⟨rfl, hb2⟩
      obtain ⟨r3, r4⟩ := r2
      have k0 : -9223372036854775808 ≤ q * b := by omega
      have k1 : q * b ≤ 9223372036854775807 := by omega
      go_wp2_with fail
      refine (Scale_of a b b l0 l1 (by omega) (by omega) (by omega) (by omega) hS _).mono ?_
      rw [scale_back a b (by omega) a0 a1]
      rintro e w3 ⟨rfl, hb3⟩
      go_wp2_with fail
      go_ret
      exact ⟨rfl, below_two (below_two hb1 hb2) hb3⟩
end Go.Proofs.Ytbmdocdcinfbfab

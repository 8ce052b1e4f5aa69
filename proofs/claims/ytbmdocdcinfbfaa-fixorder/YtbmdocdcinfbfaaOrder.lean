/- The statement FixOrder: the walk of her Go text, out of the contracts of package fix. -/
import Derived.Test.YtbmdocdcinfbfaaFix1
import Derived.Test.YtbmdocdcinfbfaaFix3
import Derived.Test.YtbmdocdcinfbfaaDiv1
import Derived.OpenShut
namespace Go.Proofs.Ytbmdocdcinfbfaa
open Go.RowKit

theorem held_mono {x y : Int} (h : x ≤ y) : held x ≤ held y := by
  unfold held
  split <;> split <;> (try split) <;> (try split) <;> omega
theorem floor_facts (a : Int) (a0 : -9223372036854775808 ≤ a) (a1 : a < 9223372036854775808) : held (a / 1000000 * 1000000) ≤ a ∧
    (-9223372036854775808 < held (a / 1000000 * 1000000) → (held (a / 1000000 * 1000000)).tmod 1000000 = 0 ∧ a - held (a / 1000000 * 1000000) < 1000000 ∧ 0 ≤ a - held (a / 1000000 * 1000000)) := by
  by_cases h : a / 1000000 * 1000000 < -9223372036854775808
  · rw [held_lo _ h]
    exact ⟨a0, fun k => by omega⟩
  · rw [held_in _ (by omega) (by omega)]
    exact ⟨by omega, fun _ => ⟨Int.mul_tmod_left _ _, by omega, by omega⟩⟩
theorem ceil_facts (a : Int) (a0 : -9223372036854775808 ≤ a) (a1 : a < 9223372036854775808) : a ≤ held (-(-a / 1000000) * 1000000) ∧
    (held (-(-a / 1000000) * 1000000) < 9223372036854775807 → (held (-(-a / 1000000) * 1000000)).tmod 1000000 = 0 ∧ held (-(-a / 1000000) * 1000000) - a < 1000000 ∧ 0 ≤ held (-(-a / 1000000) * 1000000) - a) := by
  by_cases h : 9223372036854775808 ≤ -(-a / 1000000) * 1000000
  · rw [held_hi _ h]
    exact ⟨by omega, fun k => by omega⟩
  · rw [held_in _ (by omega) (by omega)]
    exact ⟨by omega, fun _ => ⟨Int.mul_tmod_left _ _, by omega, by omega⟩⟩
theorem mul_le (a b c : Int) (h : a ≤ b) (hc : 0 ≤ c) : held (a * c / 1000000) ≤ held (b * c / 1000000) :=
  held_mono (Int.ediv_le_ediv (by decide) (Int.mul_le_mul_of_nonneg_right h hc))
theorem mul_one (a : Int) (a0 : -9223372036854775808 ≤ a) (a1 : a < 9223372036854775808) : held (a * 1000000 / 1000000) = a := by
  rw [Int.mul_ediv_cancel _ (by decide)]
  exact held_in a a0 a1
theorem add_zero (a : Int) (a0 : -9223372036854775808 ≤ a) (a1 : a < 9223372036854775808) : held (a + 0) = a := by rw [Int.add_zero]; exact held_in a a0 a1
theorem abs_nonneg (a : Int) : 0 ≤ held a.natAbs := by unfold held; split <;> (try split) <;> omega

set_option maxHeartbeats 4000000 in
set_option maxRecDepth 100000 in
theorem fixOrder_walk (a b c : Int) (ha : (Lit.int .i64 a).wf = true) (hb : (Lit.int .i64 b).wf = true) (hc : (Lit.int .i64 c).wf = true) (w : World) :
    Calls Try.prog 8 #[.int .i64 a, .int .i64 b, .int .i64 c] w fun e w' => e = .returned (.bool true) ∧ Below w.heap.size w w' := by
  have a0 := (bounds_i64 ha).1
  have a1 : a < 9223372036854775808 := by have := bounds_i64 ha; omega
  have b0 := (bounds_i64 hb).1
  have b1 : b < 9223372036854775808 := by have := bounds_i64 hb; omega
  have c0 := (bounds_i64 hc).1
  have c1 : c < 9223372036854775808 := by have := bounds_i64 hc; omega
  clear ha hb hc
  have x1 := (floor_facts a a0 a1).1
  have x2 := (ceil_facts a a0 a1).1
  have hF : Hid _ := (floor_facts a a0 a1).2
  have hG : Hid _ := (ceil_facts a a0 a1).2
  have y5 := abs_nonneg a
  by_cases h : a ≤ b
  · have g1 : held (a + c) ≤ held (b + c) := held_mono (by omega)
    have g2 : held (c - b) ≤ held (c - a) := held_mono (by omega)
    have g3 : held (-b) ≤ held (-a) := held_mono (by omega)
    have g4 : held (a / 1000000 * 1000000) ≤ held (b / 1000000 * 1000000) := held_mono (by omega)
    have g5 : held (-(-a / 1000000) * 1000000) ≤ held (-(-b / 1000000) * 1000000) := held_mono (by omega)
    have g6 : held (-(-a / 1000000) * 1000000) / 1000000 ≤ held (-(-b / 1000000) * 1000000) / 1000000 := by omega
    by_cases hc : 0 ≤ c
    · have g7 := mul_le a b c h hc
      go_enter Try.func8, Try.ntmps8
      go_wp2_with fail
      refine (awake_any _).mono ?_
      rintro e w1 ⟨rfl, hb1⟩
      go_wp2_with fail
      refine (Add_any a c a0 a1 c0 c1 _).mono ?_
      rintro e w2 ⟨rfl, hb2⟩
      go_wp2_with fail
      refine (Add_any b c b0 b1 c0 c1 _).mono ?_
      rintro e w3 ⟨rfl, hb3⟩
      go_wp2_with fail
      refine (Sub_any c a c0 c1 a0 a1 _).mono ?_
      rintro e w4 ⟨rfl, hb4⟩
      go_wp2_with fail
      refine (Sub_any c b c0 c1 b0 b1 _).mono ?_
      rintro e w5 ⟨rfl, hb5⟩
      go_wp2_with fail
      refine (Neg_any a a0 a1 _).mono ?_
      rintro e w6 ⟨rfl, hb6⟩
      go_wp2_with fail
      refine (Neg_any b b0 b1 _).mono ?_
      rintro e w7 ⟨rfl, hb7⟩
      go_wp2_with fail
      refine (Floor_any a a0 a1 _).mono ?_
      rintro e w8 ⟨rfl, hb8⟩
      go_wp2_with fail
      refine (Floor_any b b0 b1 _).mono ?_
      rintro e w9 ⟨rfl, hb9⟩
      go_wp2_with fail
      refine (Ceil_any a a0 a1 _).mono ?_
      rintro e w10 ⟨rfl, hb10⟩
      go_wp2_with fail
      refine (Ceil_any b b0 b1 _).mono ?_
      rintro e w11 ⟨rfl, hb11⟩
      go_wp2_with fail
      refine (Count_any a a0 a1 _).mono ?_
      rintro e w12 ⟨rfl, hb12⟩
      go_wp2_with fail
      refine (Count_any b b0 b1 _).mono ?_
      rintro e w13 ⟨rfl, hb13⟩
      go_wp2_with fail
      refine (Mul_of a c a0 a1 c0 c1 (divOK_any _ _ (by decide) (by decide)) _).mono ?_
      rintro e w14 ⟨rfl, hb14⟩
      go_wp2_with fail
      refine (Mul_of b c b0 b1 c0 c1 (divOK_any _ _ (by decide) (by decide)) _).mono ?_
      rintro e w15 ⟨rfl, hb15⟩
      go_wp2_with fail
      refine (Floor_any a a0 a1 _).mono ?_
      rintro e w16 ⟨rfl, hb16⟩
      go_wp2_with fail
      refine (Ceil_any a a0 a1 _).mono ?_
      rintro e w17 ⟨rfl, hb17⟩
      by_cases hf : -9223372036854775808 < held (a / 1000000 * 1000000)
      · have F1 := hF.out hf
        by_cases hg : held (-(-a / 1000000) * 1000000) < 9223372036854775807
        · have G1 := hG.out hg
          go_wp2_with fail
          refine (Add_any a b a0 a1 b0 b1 _).mono ?_
          rintro e w18 ⟨rfl, hb18⟩
          go_wp2_with fail
          refine (Add_any b a b0 b1 a0 a1 _).mono ?_
          rw [Int.add_comm b a]
          rintro e w19 ⟨rfl, hb19⟩
          go_wp2_with fail
          refine (Mul_of a b a0 a1 b0 b1 (divOK_any _ _ (by decide) (by decide)) _).mono ?_
          rintro e w20 ⟨rfl, hb20⟩
          go_wp2_with fail
          refine (Mul_of b a b0 b1 a0 a1 (divOK_any _ _ (by decide) (by decide)) _).mono ?_
          rw [Int.mul_comm b a]
          rintro e w21 ⟨rfl, hb21⟩
          go_wp2_with fail
          refine (Mul_of a 1000000 a0 a1 (by decide) (by decide) (divOK_any _ _ (by decide) (by decide)) _).mono ?_
          rw [mul_one a a0 a1]
          rintro e w22 ⟨rfl, hb22⟩
          go_wp2_with fail
          refine (Add_any a 0 a0 a1 (by decide) (by decide) _).mono ?_
          rw [add_zero a a0 a1]
          rintro e w23 ⟨rfl, hb23⟩
          go_wp2_with fail
          refine (Abs_any a a0 a1 _).mono ?_
          rintro e w24 ⟨rfl, hb24⟩
          go_wp2_with fail
          go_ret
          exact ⟨rfl, below_two (below_two (below_two (below_two (below_two (below_two (below_two (below_two (below_two (below_two (below_two (below_two (below_two (below_two (below_two (below_two (below_two (below_two (below_two (below_two (below_two (below_two (below_two (hb1) hb2) hb3) hb4) hb5) hb6) hb7) hb8) hb9) hb10) hb11) hb12) hb13) hb14) hb15) hb16) hb17) hb18) hb19) hb20) hb21) hb22) hb23) hb24⟩
        · clear hG
          go_wp2_with fail
          refine (Add_any a b a0 a1 b0 b1 _).mono ?_
          rintro e w18 ⟨rfl, hb18⟩
          go_wp2_with fail
          refine (Add_any b a b0 b1 a0 a1 _).mono ?_
          rw [Int.add_comm b a]
          rintro e w19 ⟨rfl, hb19⟩
          go_wp2_with fail
          refine (Mul_of a b a0 a1 b0 b1 (divOK_any _ _ (by decide) (by decide)) _).mono ?_
          rintro e w20 ⟨rfl, hb20⟩
          go_wp2_with fail
          refine (Mul_of b a b0 b1 a0 a1 (divOK_any _ _ (by decide) (by decide)) _).mono ?_
          rw [Int.mul_comm b a]
          rintro e w21 ⟨rfl, hb21⟩
          go_wp2_with fail
          refine (Mul_of a 1000000 a0 a1 (by decide) (by decide) (divOK_any _ _ (by decide) (by decide)) _).mono ?_
          rw [mul_one a a0 a1]
          rintro e w22 ⟨rfl, hb22⟩
          go_wp2_with fail
          refine (Add_any a 0 a0 a1 (by decide) (by decide) _).mono ?_
          rw [add_zero a a0 a1]
          rintro e w23 ⟨rfl, hb23⟩
          go_wp2_with fail
          refine (Abs_any a a0 a1 _).mono ?_
          rintro e w24 ⟨rfl, hb24⟩
          go_wp2_with fail
          go_ret
          exact ⟨rfl, below_two (below_two (below_two (below_two (below_two (below_two (below_two (below_two (below_two (below_two (below_two (below_two (below_two (below_two (below_two (below_two (below_two (below_two (below_two (below_two (below_two (below_two (below_two (hb1) hb2) hb3) hb4) hb5) hb6) hb7) hb8) hb9) hb10) hb11) hb12) hb13) hb14) hb15) hb16) hb17) hb18) hb19) hb20) hb21) hb22) hb23) hb24⟩
      · clear hF
        by_cases hg : held (-(-a / 1000000) * 1000000) < 9223372036854775807
        · have G1 := hG.out hg
          go_wp2_with fail
          refine (Add_any a b a0 a1 b0 b1 _).mono ?_
          rintro e w18 ⟨rfl, hb18⟩
          go_wp2_with fail
          refine (Add_any b a b0 b1 a0 a1 _).mono ?_
          rw [Int.add_comm b a]
          rintro e w19 ⟨rfl, hb19⟩
          go_wp2_with fail
          refine (Mul_of a b a0 a1 b0 b1 (divOK_any _ _ (by decide) (by decide)) _).mono ?_
          rintro e w20 ⟨rfl, hb20⟩
          go_wp2_with fail
          refine (Mul_of b a b0 b1 a0 a1 (divOK_any _ _ (by decide) (by decide)) _).mono ?_
          rw [Int.mul_comm b a]
          rintro e w21 ⟨rfl, hb21⟩
          go_wp2_with fail
          refine (Mul_of a 1000000 a0 a1 (by decide) (by decide) (divOK_any _ _ (by decide) (by decide)) _).mono ?_
          rw [mul_one a a0 a1]
          rintro e w22 ⟨rfl, hb22⟩
          go_wp2_with fail
          refine (Add_any a 0 a0 a1 (by decide) (by decide) _).mono ?_
          rw [add_zero a a0 a1]
          rintro e w23 ⟨rfl, hb23⟩
          go_wp2_with fail
          refine (Abs_any a a0 a1 _).mono ?_
          rintro e w24 ⟨rfl, hb24⟩
          go_wp2_with fail
          go_ret
          exact ⟨rfl, below_two (below_two (below_two (below_two (below_two (below_two (below_two (below_two (below_two (below_two (below_two (below_two (below_two (below_two (below_two (below_two (below_two (below_two (below_two (below_two (below_two (below_two (below_two (hb1) hb2) hb3) hb4) hb5) hb6) hb7) hb8) hb9) hb10) hb11) hb12) hb13) hb14) hb15) hb16) hb17) hb18) hb19) hb20) hb21) hb22) hb23) hb24⟩
        · clear hG
          go_wp2_with fail
          refine (Add_any a b a0 a1 b0 b1 _).mono ?_
          rintro e w18 ⟨rfl, hb18⟩
          go_wp2_with fail
          refine (Add_any b a b0 b1 a0 a1 _).mono ?_
          rw [Int.add_comm b a]
          rintro e w19 ⟨rfl, hb19⟩
          go_wp2_with fail
          refine (Mul_of a b a0 a1 b0 b1 (divOK_any _ _ (by decide) (by decide)) _).mono ?_
          rintro e w20 ⟨rfl, hb20⟩
          go_wp2_with fail
          refine (Mul_of b a b0 b1 a0 a1 (divOK_any _ _ (by decide) (by decide)) _).mono ?_
          rw [Int.mul_comm b a]
          rintro e w21 ⟨rfl, hb21⟩
          go_wp2_with fail
          refine (Mul_of a 1000000 a0 a1 (by decide) (by decide) (divOK_any _ _ (by decide) (by decide)) _).mono ?_
          rw [mul_one a a0 a1]
          rintro e w22 ⟨rfl, hb22⟩
          go_wp2_with fail
          refine (Add_any a 0 a0 a1 (by decide) (by decide) _).mono ?_
          rw [add_zero a a0 a1]
          rintro e w23 ⟨rfl, hb23⟩
          go_wp2_with fail
          refine (Abs_any a a0 a1 _).mono ?_
          rintro e w24 ⟨rfl, hb24⟩
          go_wp2_with fail
          go_ret
          exact ⟨rfl, below_two (below_two (below_two (below_two (below_two (below_two (below_two (below_two (below_two (below_two (below_two (below_two (below_two (below_two (below_two (below_two (below_two (below_two (below_two (below_two (below_two (below_two (below_two (hb1) hb2) hb3) hb4) hb5) hb6) hb7) hb8) hb9) hb10) hb11) hb12) hb13) hb14) hb15) hb16) hb17) hb18) hb19) hb20) hb21) hb22) hb23) hb24⟩
    · skip
      go_enter Try.func8, Try.ntmps8
      go_wp2_with fail
      refine (awake_any _).mono ?_
      rintro e w1 ⟨rfl, hb1⟩
      go_wp2_with fail
      refine (Add_any a c a0 a1 c0 c1 _).mono ?_
      rintro e w2 ⟨rfl, hb2⟩
      go_wp2_with fail
      refine (Add_any b c b0 b1 c0 c1 _).mono ?_
      rintro e w3 ⟨rfl, hb3⟩
      go_wp2_with fail
      refine (Sub_any c a c0 c1 a0 a1 _).mono ?_
      rintro e w4 ⟨rfl, hb4⟩
      go_wp2_with fail
      refine (Sub_any c b c0 c1 b0 b1 _).mono ?_
      rintro e w5 ⟨rfl, hb5⟩
      go_wp2_with fail
      refine (Neg_any a a0 a1 _).mono ?_
      rintro e w6 ⟨rfl, hb6⟩
      go_wp2_with fail
      refine (Neg_any b b0 b1 _).mono ?_
      rintro e w7 ⟨rfl, hb7⟩
      go_wp2_with fail
      refine (Floor_any a a0 a1 _).mono ?_
      rintro e w8 ⟨rfl, hb8⟩
      go_wp2_with fail
      refine (Floor_any b b0 b1 _).mono ?_
      rintro e w9 ⟨rfl, hb9⟩
      go_wp2_with fail
      refine (Ceil_any a a0 a1 _).mono ?_
      rintro e w10 ⟨rfl, hb10⟩
      go_wp2_with fail
      refine (Ceil_any b b0 b1 _).mono ?_
      rintro e w11 ⟨rfl, hb11⟩
      go_wp2_with fail
      refine (Count_any a a0 a1 _).mono ?_
      rintro e w12 ⟨rfl, hb12⟩
      go_wp2_with fail
      refine (Count_any b b0 b1 _).mono ?_
      rintro e w13 ⟨rfl, hb13⟩
      go_wp2_with fail
      refine (Floor_any a a0 a1 _).mono ?_
      rintro e w14 ⟨rfl, hb14⟩
      go_wp2_with fail
      refine (Ceil_any a a0 a1 _).mono ?_
      rintro e w15 ⟨rfl, hb15⟩
      by_cases hf : -9223372036854775808 < held (a / 1000000 * 1000000)
      · have F1 := hF.out hf
        by_cases hg : held (-(-a / 1000000) * 1000000) < 9223372036854775807
        · have G1 := hG.out hg
          go_wp2_with fail
          refine (Add_any a b a0 a1 b0 b1 _).mono ?_
          rintro e w16 ⟨rfl, hb16⟩
          go_wp2_with fail
          refine (Add_any b a b0 b1 a0 a1 _).mono ?_
          rw [Int.add_comm b a]
          rintro e w17 ⟨rfl, hb17⟩
          go_wp2_with fail
          refine (Mul_of a b a0 a1 b0 b1 (divOK_any _ _ (by decide) (by decide)) _).mono ?_
          rintro e w18 ⟨rfl, hb18⟩
          go_wp2_with fail
          refine (Mul_of b a b0 b1 a0 a1 (divOK_any _ _ (by decide) (by decide)) _).mono ?_
          rw [Int.mul_comm b a]
          rintro e w19 ⟨rfl, hb19⟩
          go_wp2_with fail
          refine (Mul_of a 1000000 a0 a1 (by decide) (by decide) (divOK_any _ _ (by decide) (by decide)) _).mono ?_
          rw [mul_one a a0 a1]
          rintro e w20 ⟨rfl, hb20⟩
          go_wp2_with fail
          refine (Add_any a 0 a0 a1 (by decide) (by decide) _).mono ?_
          rw [add_zero a a0 a1]
          rintro e w21 ⟨rfl, hb21⟩
          go_wp2_with fail
          refine (Abs_any a a0 a1 _).mono ?_
          rintro e w22 ⟨rfl, hb22⟩
          go_wp2_with fail
          go_ret
          exact ⟨rfl, below_two (below_two (below_two (below_two (below_two (below_two (below_two (below_two (below_two (below_two (below_two (below_two (below_two (below_two (below_two (below_two (below_two (below_two (below_two (below_two (below_two (hb1) hb2) hb3) hb4) hb5) hb6) hb7) hb8) hb9) hb10) hb11) hb12) hb13) hb14) hb15) hb16) hb17) hb18) hb19) hb20) hb21) hb22⟩
        · clear hG
          go_wp2_with fail
          refine (Add_any a b a0 a1 b0 b1 _).mono ?_
          rintro e w16 ⟨rfl, hb16⟩
          go_wp2_with fail
          refine (Add_any b a b0 b1 a0 a1 _).mono ?_
          rw [Int.add_comm b a]
          rintro e w17 ⟨rfl, hb17⟩
          go_wp2_with fail
          refine (Mul_of a b a0 a1 b0 b1 (divOK_any _ _ (by decide) (by decide)) _).mono ?_
          rintro e w18 ⟨rfl, hb18⟩
          go_wp2_with fail
          refine (Mul_of b a b0 b1 a0 a1 (divOK_any _ _ (by decide) (by decide)) _).mono ?_
          rw [Int.mul_comm b a]
          rintro e w19 ⟨rfl, hb19⟩
          go_wp2_with fail
          refine (Mul_of a 1000000 a0 a1 (by decide) (by decide) (divOK_any _ _ (by decide) (by decide)) _).mono ?_
          rw [mul_one a a0 a1]
          rintro e w20 ⟨rfl, hb20⟩
          go_wp2_with fail
          refine (Add_any a 0 a0 a1 (by decide) (by decide) _).mono ?_
          rw [add_zero a a0 a1]
          rintro e w21 ⟨rfl, hb21⟩
          go_wp2_with fail
          refine (Abs_any a a0 a1 _).mono ?_
          rintro e w22 ⟨rfl, hb22⟩
          go_wp2_with fail
          go_ret
          exact ⟨rfl, below_two (below_two (below_two (below_two (below_two (below_two (below_two (below_two (below_two (below_two (below_two (below_two (below_two (below_two (below_two (below_two (below_two (below_two (below_two (below_two (below_two (hb1) hb2) hb3) hb4) hb5) hb6) hb7) hb8) hb9) hb10) hb11) hb12) hb13) hb14) hb15) hb16) hb17) hb18) hb19) hb20) hb21) hb22⟩
      · clear hF
        by_cases hg : held (-(-a / 1000000) * 1000000) < 9223372036854775807
        · have G1 := hG.out hg
          go_wp2_with fail
          refine (Add_any a b a0 a1 b0 b1 _).mono ?_
          rintro e w16 ⟨rfl, hb16⟩
          go_wp2_with fail
          refine (Add_any b a b0 b1 a0 a1 _).mono ?_
          rw [Int.add_comm b a]
          rintro e w17 ⟨rfl, hb17⟩
          go_wp2_with fail
          refine (Mul_of a b a0 a1 b0 b1 (divOK_any _ _ (by decide) (by decide)) _).mono ?_
          rintro e w18 ⟨rfl, hb18⟩
          go_wp2_with fail
          refine (Mul_of b a b0 b1 a0 a1 (divOK_any _ _ (by decide) (by decide)) _).mono ?_
          rw [Int.mul_comm b a]
          rintro e w19 ⟨rfl, hb19⟩
          go_wp2_with fail
          refine (Mul_of a 1000000 a0 a1 (by decide) (by decide) (divOK_any _ _ (by decide) (by decide)) _).mono ?_
          rw [mul_one a a0 a1]
          rintro e w20 ⟨rfl, hb20⟩
          go_wp2_with fail
          refine (Add_any a 0 a0 a1 (by decide) (by decide) _).mono ?_
          rw [add_zero a a0 a1]
          rintro e w21 ⟨rfl, hb21⟩
          go_wp2_with fail
          refine (Abs_any a a0 a1 _).mono ?_
          rintro e w22 ⟨rfl, hb22⟩
          go_wp2_with fail
          go_ret
          exact ⟨rfl, below_two (below_two (below_two (below_two (below_two (below_two (below_two (below_two (below_two (below_two (below_two (below_two (below_two (below_two (below_two (below_two (below_two (below_two (below_two (below_two (below_two (hb1) hb2) hb3) hb4) hb5) hb6) hb7) hb8) hb9) hb10) hb11) hb12) hb13) hb14) hb15) hb16) hb17) hb18) hb19) hb20) hb21) hb22⟩
        · clear hG
          go_wp2_with fail
          refine (Add_any a b a0 a1 b0 b1 _).mono ?_
          rintro e w16 ⟨rfl, hb16⟩
          go_wp2_with fail
          refine (Add_any b a b0 b1 a0 a1 _).mono ?_
          rw [Int.add_comm b a]
          rintro e w17 ⟨rfl, hb17⟩
          go_wp2_with fail
          refine (Mul_of a b a0 a1 b0 b1 (divOK_any _ _ (by decide) (by decide)) _).mono ?_
          rintro e w18 ⟨rfl, hb18⟩
          go_wp2_with fail
          refine (Mul_of b a b0 b1 a0 a1 (divOK_any _ _ (by decide) (by decide)) _).mono ?_
          rw [Int.mul_comm b a]
          rintro e w19 ⟨rfl, hb19⟩
          go_wp2_with fail
          refine (Mul_of a 1000000 a0 a1 (by decide) (by decide) (divOK_any _ _ (by decide) (by decide)) _).mono ?_
          rw [mul_one a a0 a1]
          rintro e w20 ⟨rfl, hb20⟩
          go_wp2_with fail
          refine (Add_any a 0 a0 a1 (by decide) (by decide) _).mono ?_
          rw [add_zero a a0 a1]
          rintro e w21 ⟨rfl, hb21⟩
          go_wp2_with fail
          refine (Abs_any a a0 a1 _).mono ?_
          rintro e w22 ⟨rfl, hb22⟩
          go_wp2_with fail
          go_ret
          exact ⟨rfl, below_two (below_two (below_two (below_two (below_two (below_two (below_two (below_two (below_two (below_two (below_two (below_two (below_two (below_two (below_two (below_two (below_two (below_two (below_two (below_two (below_two (hb1) hb2) hb3) hb4) hb5) hb6) hb7) hb8) hb9) hb10) hb11) hb12) hb13) hb14) hb15) hb16) hb17) hb18) hb19) hb20) hb21) hb22⟩
  · skip
    go_enter Try.func8, Try.ntmps8
    go_wp2_with fail
    refine (awake_any _).mono ?_
    rintro e w1 ⟨rfl, hb1⟩
    go_wp2_with fail
    refine (Floor_any a a0 a1 _).mono ?_
    rintro e w2 ⟨rfl, hb2⟩
    go_wp2_with fail
    refine (Ceil_any a a0 a1 _).mono ?_
    rintro e w3 ⟨rfl, hb3⟩
    by_cases hf : -9223372036854775808 < held (a / 1000000 * 1000000)
    · have F1 := hF.out hf
      by_cases hg : held (-(-a / 1000000) * 1000000) < 9223372036854775807
      · have G1 := hG.out hg
        go_wp2_with fail
        refine (Add_any a b a0 a1 b0 b1 _).mono ?_
        rintro e w4 ⟨rfl, hb4⟩
        go_wp2_with fail
        refine (Add_any b a b0 b1 a0 a1 _).mono ?_
        rw [Int.add_comm b a]
        rintro e w5 ⟨rfl, hb5⟩
        go_wp2_with fail
        refine (Mul_of a b a0 a1 b0 b1 (divOK_any _ _ (by decide) (by decide)) _).mono ?_
        rintro e w6 ⟨rfl, hb6⟩
        go_wp2_with fail
        refine (Mul_of b a b0 b1 a0 a1 (divOK_any _ _ (by decide) (by decide)) _).mono ?_
        rw [Int.mul_comm b a]
        rintro e w7 ⟨rfl, hb7⟩
        go_wp2_with fail
        refine (Mul_of a 1000000 a0 a1 (by decide) (by decide) (divOK_any _ _ (by decide) (by decide)) _).mono ?_
        rw [mul_one a a0 a1]
        rintro e w8 ⟨rfl, hb8⟩
        go_wp2_with fail
        refine (Add_any a 0 a0 a1 (by decide) (by decide) _).mono ?_
        rw [add_zero a a0 a1]
        rintro e w9 ⟨rfl, hb9⟩
        go_wp2_with fail
        refine (Abs_any a a0 a1 _).mono ?_
        rintro e w10 ⟨rfl, hb10⟩
        go_wp2_with fail
        go_ret
        exact ⟨rfl, below_two (below_two (below_two (below_two (below_two (below_two (below_two (below_two (below_two (hb1) hb2) hb3) hb4) hb5) hb6) hb7) hb8) hb9) hb10⟩
      · clear hG
        go_wp2_with fail
        refine (Add_any a b a0 a1 b0 b1 _).mono ?_
        rintro e w4 ⟨rfl, hb4⟩
        go_wp2_with fail
        refine (Add_any b a b0 b1 a0 a1 _).mono ?_
        rw [Int.add_comm b a]
        rintro e w5 ⟨rfl, hb5⟩
        go_wp2_with fail
        refine (Mul_of a b a0 a1 b0 b1 (divOK_any _ _ (by decide) (by decide)) _).mono ?_
        rintro e w6 ⟨rfl, hb6⟩
        go_wp2_with fail
        refine (Mul_of b a b0 b1 a0 a1 (divOK_any _ _ (by decide) (by decide)) _).mono ?_
        rw [Int.mul_comm b a]
        rintro e w7 ⟨rfl, hb7⟩
        go_wp2_with fail
        refine (Mul_of a 1000000 a0 a1 (by decide) (by decide) (divOK_any _ _ (by decide) (by decide)) _).mono ?_
        rw [mul_one a a0 a1]
        rintro e w8 ⟨rfl, hb8⟩
        go_wp2_with fail
        refine (Add_any a 0 a0 a1 (by decide) (by decide) _).mono ?_
        rw [add_zero a a0 a1]
        rintro e w9 ⟨rfl, hb9⟩
        go_wp2_with fail
        refine (Abs_any a a0 a1 _).mono ?_
        rintro e w10 ⟨rfl, hb10⟩
        go_wp2_with fail
        go_ret
        exact ⟨rfl, below_two (below_two (below_two (below_two (below_two (below_two (below_two (below_two (below_two (hb1) hb2) hb3) hb4) hb5) hb6) hb7) hb8) hb9) hb10⟩
    · clear hF
      by_cases hg : held (-(-a / 1000000) * 1000000) < 9223372036854775807
      · have G1 := hG.out hg
        go_wp2_with fail
        refine (Add_any a b a0 a1 b0 b1 _).mono ?_
        rintro e w4 ⟨rfl, hb4⟩
        go_wp2_with fail
        refine (Add_any b a b0 b1 a0 a1 _).mono ?_
        rw [Int.add_comm b a]
        rintro e w5 ⟨rfl, hb5⟩
        go_wp2_with fail
        refine (Mul_of a b a0 a1 b0 b1 (divOK_any _ _ (by decide) (by decide)) _).mono ?_
        rintro e w6 ⟨rfl, hb6⟩
        go_wp2_with fail
        refine (Mul_of b a b0 b1 a0 a1 (divOK_any _ _ (by decide) (by decide)) _).mono ?_
        rw [Int.mul_comm b a]
        rintro e w7 ⟨rfl, hb7⟩
        go_wp2_with fail
        refine (Mul_of a 1000000 a0 a1 (by decide) (by decide) (divOK_any _ _ (by decide) (by decide)) _).mono ?_
        rw [mul_one a a0 a1]
        rintro e w8 ⟨rfl, hb8⟩
        go_wp2_with fail
        refine (Add_any a 0 a0 a1 (by decide) (by decide) _).mono ?_
        rw [add_zero a a0 a1]
        rintro e w9 ⟨rfl, hb9⟩
        go_wp2_with fail
        refine (Abs_any a a0 a1 _).mono ?_
        rintro e w10 ⟨rfl, hb10⟩
        go_wp2_with fail
        go_ret
        exact ⟨rfl, below_two (below_two (below_two (below_two (below_two (below_two (below_two (below_two (below_two (hb1) hb2) hb3) hb4) hb5) hb6) hb7) hb8) hb9) hb10⟩
      · clear hG
        go_wp2_with fail
        refine (Add_any a b a0 a1 b0 b1 _).mono ?_
        rintro e w4 ⟨rfl, hb4⟩
        go_wp2_with fail
        refine (Add_any b a b0 b1 a0 a1 _).mono ?_
        rw [Int.add_comm b a]
        rintro e w5 ⟨rfl, hb5⟩
        go_wp2_with fail
        refine (Mul_of a b a0 a1 b0 b1 (divOK_any _ _ (by decide) (by decide)) _).mono ?_
        rintro e w6 ⟨rfl, hb6⟩
        go_wp2_with fail
        refine (Mul_of b a b0 b1 a0 a1 (divOK_any _ _ (by decide) (by decide)) _).mono ?_
        rw [Int.mul_comm b a]
        rintro e w7 ⟨rfl, hb7⟩
        go_wp2_with fail
        refine (Mul_of a 1000000 a0 a1 (by decide) (by decide) (divOK_any _ _ (by decide) (by decide)) _).mono ?_
        rw [mul_one a a0 a1]
        rintro e w8 ⟨rfl, hb8⟩
        go_wp2_with fail
        refine (Add_any a 0 a0 a1 (by decide) (by decide) _).mono ?_
        rw [add_zero a a0 a1]
        rintro e w9 ⟨rfl, hb9⟩
        go_wp2_with fail
        refine (Abs_any a a0 a1 _).mono ?_
        rintro e w10 ⟨rfl, hb10⟩
        go_wp2_with fail
        go_ret
        exact ⟨rfl, below_two (below_two (below_two (below_two (below_two (below_two (below_two (below_two (below_two (hb1) hb2) hb3) hb4) hb5) hb6) hb7) hb8) hb9) hb10⟩
end Go.Proofs.Ytbmdocdcinfbfaa

/- The small functions of package dim: bounded, common, isLetter, isDigit. -/
import Derived.Test.YtjmngnnmnbhfpaaDoorWide1
import Derived.BigQuiet
namespace Go.Proofs.YtjmngnnmnbhfpaaDoor
open Go.RowKit

def letterB (b : Int) : Bool := (decide (97 ≤ b) && decide (b ≤ 122)) || (decide (65 ≤ b) && decide (b ≤ 90))
def digitB (b : Int) : Bool := decide (48 ≤ b) && decide (b ≤ 57)

theorem isLetter_any (b : Int) (w : World) : Calls Tryd.prog 38 #[.int .u8 b] w fun e w' => e = .returned (.bool (letterB b)) ∧ w = w' := by
  unfold letterB
  by_cases h1 : 97 ≤ b <;> by_cases h2 : b ≤ 122 <;> by_cases h3 : 65 ≤ b <;> by_cases h4 : b ≤ 90 <;> simp only [h1, h2, h3, h4, decide_true, decide_false, Bool.and_true, Bool.and_false, Bool.or_true, Bool.or_false]
  all_goals
    go_enter Tryd.func38, Tryd.ntmps38
    go_wp2_with fail
    go_ret
    exact ⟨rfl, rfl⟩

theorem isDigit_any (b : Int) (w : World) : Calls Tryd.prog 40 #[.int .u8 b] w fun e w' => e = .returned (.bool (digitB b)) ∧ w = w' := by
  unfold digitB
  by_cases h1 : 48 ≤ b <;> by_cases h2 : b ≤ 57 <;> simp only [h1, h2, decide_true, decide_false, Bool.and_true, Bool.and_false]
  all_goals
    go_enter Tryd.func40, Tryd.ntmps40
    go_wp2_with fail
    go_ret
    exact ⟨rfl, rfl⟩

theorem gcd_step (p q : Int) (p0 : 0 ≤ p) (q0 : 0 ≤ q) : Int.gcd q (p % q) = Int.gcd p q := by
  obtain ⟨n, rfl⟩ := Int.eq_ofNat_of_zero_le p0
  obtain ⟨m, rfl⟩ := Int.eq_ofNat_of_zero_le q0
  rw [← Int.natCast_emod, Int.gcd_natCast_natCast, Int.gcd_natCast_natCast, Nat.gcd_comm m, ← Nat.gcd_rec, Nat.gcd_comm]

theorem drewN_two (w : World) (a b : Nat) : (w.drewN a).drewN b = w.drewN (a + b) := by
  simp [World.drewN, Nat.add_assoc]

theorem common_any (a b : Int) (a0 : 0 < a) (b0 : 0 < b) (b1 : b < 9223372036854775808) (w : World) :
    Calls Tryd.prog 62 #[.int .i64 a, .int .i64 b] w fun e w' => e = .returned (.int .i64 (Int.gcd a b)) ∧ ∃ k, w' = w.drewN k := by
  go_enter Tryd.func62, Tryd.ntmps62
  go_wp2_with fail
  go_loopw [0, 1] (fun x y wr => ∃ p q : Int, x = .int .i64 p ∧ y = .int .i64 q ∧ 0 < p ∧ 0 ≤ q ∧ q < 9223372036854775808 ∧ Int.gcd p q = Int.gcd a b ∧ ∃ k, wr = w.drewN k) (fun _ y _ => (intOf y).toNat)
  case atStart => exact ⟨a, b, rfl, rfl, a0, by omega, b1, rfl, 0, rfl⟩
  case round =>
    obtain ⟨p, q, rfl, rfl, p0, q0, q1, hg, nd, rfl⟩ := hrel
    by_cases hq : q = 0
    · subst hq
      have HG : Hid _ := hg
      clear hg
      go_wp2_with fail
      go_ret
      exact ⟨ret_int (by rw [← HG.out]; simp; omega), nd, rfl⟩
    · have hq' : (q != 0) = true := by simpa using hq
      have hm0 := Int.emod_nonneg p hq
      have hm1 := Int.emod_lt_of_pos p (show 0 < q by omega)
      have ht : p.tmod q = p % q := Int.tmod_eq_emod_of_nonneg (by omega)
      have hg2 : Int.gcd q (p % q) = Int.gcd a b := (gcd_step p q (by omega) q0).trans hg
      have HG : Hid _ := hg2
      have HT : Hid _ := ht
      clear hg hg2 ht
      go_wp2_with fail
      go_quiet (fail)
      go_wp2_with fail
      go_roundw
      case rel => exact ⟨q, p % q, rfl, rfl, by omega, hm0, by omega, HG.out, _, drewN_two w nd nq⟩
      case measure => simp [intOf]; omega

/-- As a region that draws asks for it. -/
theorem common_quiet (a b : Int) (a0 : 0 < a) (b0 : 0 < b) (b1 : b < 9223372036854775808) (w : World) (n : Nat) :
    Calls Tryd.prog 62 #[.int .i64 a, .int .i64 b] (w.drewN n) fun e w' => e = .returned (.int .i64 (Int.gcd a b)) ∧ ∃ k, w' = w.drewN k :=
  (common_any a b a0 b0 b1 _).mono fun _ _ ⟨he, k, hk⟩ => ⟨he, _, hk.trans (drewN_two w n k)⟩

theorem bounded_any (a b : Int) (a0 : 0 < a) (b0 : 0 < b) (b1 : b < 9223372036854775808) (w : World) :
    Calls Tryd.prog 63 #[.int .i64 a, .int .i64 b] w fun e w' => e = .returned (.tuple #[.int .i64 (if a * b ≤ 1000000000000000 then a * b else 0), .bool (decide (a * b ≤ 1000000000000000))]) ∧ w = w' := by
  have ht : (1000000000000000 : Int).tdiv b = 1000000000000000 / b := Int.tdiv_eq_ediv_of_nonneg (by decide)
  have hk : (1000000000000000 / b < a) ↔ ¬ a * b ≤ 1000000000000000 := by
    rw [Int.ediv_lt_iff_lt_mul b0]; omega
  by_cases h : a * b ≤ 1000000000000000
  · simp only [h, if_true, decide_true]
    have k1 : ¬ (1000000000000000 : Int) / b < a := by rw [hk]; omega
    have p0 : 0 < a * b := Int.mul_pos a0 b0
    have hz : (b == 0) = false := by simp; omega
    clear hk ht
    go_enter Tryd.func63, Tryd.ntmps63
    go_wp2_with fail
    go_ret2
    exact ⟨rfl, rfl⟩
  · simp only [h, if_false, decide_false]
    have k1 : (1000000000000000 : Int) / b < a := by rw [hk]; omega
    have hz : (b == 0) = false := by simp; omega
    clear hk ht
    go_enter Tryd.func63, Tryd.ntmps63
    go_wp2_with fail
    go_ret2
    exact ⟨rfl, rfl⟩
/-- As a region that draws asks for it. -/
theorem bounded_quiet (a b : Int) (a0 : 0 < a) (b0 : 0 < b) (b1 : b < 9223372036854775808) (w : World) (n : Nat) :
    Calls Tryd.prog 63 #[.int .i64 a, .int .i64 b] (w.drewN n) fun e w' => e = .returned (.tuple #[.int .i64 (if a * b ≤ 1000000000000000 then a * b else 0), .bool (decide (a * b ≤ 1000000000000000))]) ∧ ∃ k, w' = w.drewN k :=
  (bounded_any a b a0 b0 b1 _).mono fun _ _ ⟨he, hk⟩ => ⟨he, n, hk.symm⟩
end Go.Proofs.YtjmngnnmnbhfpaaDoor

/- Package cron: sets of numbers. -/
import Derived.Test.YtddinknnaakmmabDoorCivE
import Derived.Test.YtddinknnaakmmabDoorCroM
import Derived.Laws.Bits64b
namespace Go.Proofs.YtddinknnaakmmabDoor
open Go.RowKit

theorem bit_and_one (S n : Nat) (hS : S < 18446744073709551616) : (bits .and .u64 ((S : Int) / 2 ^ min n 64) 1 == 1) = S.testBit n := by
  have e0 : (S : Int) / 2 ^ min n 64 = ((S / 2 ^ min n 64 : Nat) : Int) := by simp
  have hd : S / 2 ^ min n 64 ≤ S := Nat.div_le_self _ _
  have e1 := bits_and_u64_nat (S / 2 ^ min n 64) 1 (by omega) (by decide)
  rw [e0, show (1 : Int) = ((1 : Nat) : Int) from rfl, e1, Nat.and_one_is_mod, Nat.testBit_eq_decide_div_mod_eq]
  have e2 : S / 2 ^ min n 64 % 2 = S / 2 ^ n % 2 := by
    rcases Nat.le_total n 64 with h | h
    · rw [Nat.min_eq_left h]
    · rw [Nat.min_eq_right h, Nat.div_eq_of_lt (show S < 2 ^ 64 from hS), Nat.div_eq_of_lt (Nat.lt_of_lt_of_le (show S < 2 ^ 64 from hS) (Nat.pow_le_pow_right (by decide) h))]
  rw [e2]
  rcases Nat.mod_two_eq_zero_or_one (S / 2 ^ n) with h | h <;> rw [h] <;> rfl
theorem holds_any (S n : Nat) (hS : S < 18446744073709551616) (_hn : n ≤ 1000) (w : World) :
    Calls Tryd.prog 9 #[.int .u64 S, .int .i64 n] w fun e w' => e = .returned (.bool (S.testBit n)) ∧ w = w' := by
  have hb := bit_and_one S n hS
  go_enter Tryd.func9, Tryd.ntmps9
  go_wp2_with fail
  go_ret
  exact ⟨rfl, rfl⟩
theorem cast_pow (m : Nat) : ((2 ^ m : Nat) : Int) = (2 : Int) ^ m := by simp
theorem shl_one (m : Nat) (h : m < 64) : IntKind.u64.wrap ((2 : Int) ^ m) = (2 : Int) ^ m := by
  have h1 : ((2 ^ m : Nat) : Int) < 18446744073709551616 := by have := pow_lt64 h; omega
  have h0 : 0 ≤ ((2 ^ m : Nat) : Int) := Int.natCast_nonneg _
  rw [cast_pow] at h0 h1
  rw [IntKind.wrap_u64]
  exact Int.emod_eq_of_lt h0 h1
set_option maxHeartbeats 400000 in
theorem every_any (a b k : Nat) (hab : a ≤ b) (hS : b < 64) (hk1 : 1 ≤ k) (hk : k ≤ 99) (w : World) :
    Calls Tryd.prog 32 #[.int .i64 a, .int .i64 b, .int .i64 k] w fun e w' => e = .returned (.int .u64 (evS a b k : Nat)) ∧ w = w' := by
  go_enter Tryd.func32, Tryd.ntmps32
  go_wp2_with fail
  go_loopw [7, 8] (fun p q wr => ∃ m : Nat, p = .int .u64 (evUp a k m : Nat) ∧ q = .int .i64 m ∧ a ≤ m ∧ (m - a) % k = 0 ∧ m ≤ b + k ∧ w = wr) (fun _ q _ => (200 - intOf q).toNat)
  case atStart => exact ⟨a, by rw [evUp_first]; rfl, rfl, Nat.le_refl _, by simp, by omega, rfl⟩
  case round =>
    obtain ⟨m, rfl, rfl, h0, hm, h1, rfl⟩ := hrel
    by_cases hlt : m ≤ b
    · have e := evUp_next a k m h0 hm hk1 (by omega)
      have hm' : (m + k - a) % k = 0 := by rw [show m + k - a = (m - a) + k by omega, Nat.add_mod_right]; exact hm
      have E : Hid _ := e
      have HM : Hid _ := hm'
      clear e hm hm'
      have q1 := evUp_lt a k m
      have e2 := bits_or_u64_nat (evUp a k m) (2 ^ m) q1 (pow_lt64 (show m < 64 by omega))
      rw [E.out, cast_pow] at e2
      have e1 := shl_one m (by omega)
      go_wp2_with fail
      exact ⟨⟨m + k, rfl, by go_num, by omega, HM.out, by omega, trivial⟩, by simp [intOf]; omega⟩
    · have e := evUp_end a b k m h0 hm (by omega) h1 hab
      have E : Hid _ := e
      clear e hm
      go_wp2_with fail
      go_ret
      exact ⟨by rw [E.out]; rfl, rfl⟩
end Go.Proofs.YtddinknnaakmmabDoor

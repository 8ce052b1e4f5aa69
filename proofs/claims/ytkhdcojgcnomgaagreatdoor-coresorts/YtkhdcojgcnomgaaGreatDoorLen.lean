/- math/bits.Len64 and LeadingZeros64: how far a word is to be shifted up till its top bit is set. -/
import Derived.Test.YtkhdcojgcnomgaaGreatDoorChecked
import Derived.WalkKit
import Derived.WalkSpells
import Derived.Below
import Derived.Laws.MathBits
namespace Go.Proofs.YtkhdcojgcnomgaaGreatDoor
open Go.RowKit

theorem ret_i64 {a b : Int} (h : a = b) : Ending.returned (.int .i64 a) = .returned (.int .i64 b) := by rw [h]
theorem len_fin (x i : Int) (c : Nat) (hc : c ≤ 56) (i0 : 0 ≤ i) (i1 : i < 256) (e : i.toNat = x.toNat / 2 ^ c) (hn : c = 0 ∨ 0 < i) : wrap64 ((c : Int) + wrap64 (bitLen i.toNat)) = bitLen x.toNat := by
  have h8 := bitLen_le8 i.toNat (by omega)
  have key : bitLen x.toNat = c + bitLen i.toNat := by
    rcases hn with rfl | hn
    · rw [e]; simp
    · rw [e]; exact bitLen_shift x.toNat c (by rw [← e]; omega)
  rw [key]
  unfold wrap64
  omega

set_option maxHeartbeats 4000000 in
set_option maxRecDepth 100000 in
theorem len64 (x : Int) (x0 : 0 ≤ x) (x1 : x < 18446744073709551616) (w : World) :
    Calls Tryz.prog 194 #[.int .u64 x] w fun e w' => e = .returned (.int .i64 (bitLen x.toNat)) ∧ w' = w := by
  go_enter Tryz.func194, Tryz.ntmps194
  go_wp2
  all_goals go_ret
  all_goals refine ⟨congrArg Ending.returned (congrArg (Value.int IntKind.i64) ?_), rfl⟩
  all_goals rw [len8tab_get]
  · exact len_fin x _ 56 (by omega) (by omega) (by omega) (by omega) (by omega)
  · exact len_fin x _ 48 (by omega) (by omega) (by omega) (by omega) (by omega)
  · exact len_fin x _ 40 (by omega) (by omega) (by omega) (by omega) (by omega)
  · exact len_fin x _ 32 (by omega) (by omega) (by omega) (by omega) (by omega)
  · exact len_fin x _ 24 (by omega) (by omega) (by omega) (by omega) (by omega)
  · exact len_fin x _ 16 (by omega) (by omega) (by omega) (by omega) (by omega)
  · exact len_fin x _ 8 (by omega) (by omega) (by omega) (by omega) (by omega)
  · have h8 := bitLen_le8 x.toNat (by omega)
    unfold wrap64
    omega

theorem cast_shift (Y s : Nat) : (Y : Int) * 2 ^ s = ((Y * 2 ^ s : Nat) : Int) := by
  rw [Int.natCast_mul, Int.natCast_pow]; rfl
theorem bitLen_64 (x : Nat) (h : x < 18446744073709551616) : bitLen x ≤ 64 := by
  unfold bitLen
  split
  · omega
  · rename_i h0
    have := (Nat.log2_lt h0).2 (show x < 2 ^ 64 from h)
    omega

set_option maxHeartbeats 400000 in
/-- How far y is to be shifted up. -/
theorem lead64 (y : Int) (y0 : 0 < y) (y1 : y < 18446744073709551616) (w : World) :
    Calls Tryz.prog 189 #[.int .u64 y] w fun e w' => ∃ s : Nat, e = .returned (.int .i64 s) ∧ s ≤ 63 ∧ 9223372036854775808 ≤ y * 2 ^ s ∧ y * 2 ^ s < 18446744073709551616 ∧ w' = w := by
  have hb := bitLen_64 y.toNat (by omega)
  obtain ⟨k1, k2⟩ := bitLen_spec y.toNat
  have k3 := k2 (by omega)
  have hp : 1 ≤ bitLen y.toNat := by
    cases h : bitLen y.toNat with
    | zero => rw [h] at k1; simp at k1; omega
    | succ n => omega
  obtain ⟨Y, rfl⟩ := Int.eq_ofNat_of_zero_le (Int.le_of_lt y0)
  rw [Int.toNat_natCast] at hb k1 k3 hp
  have f1 : Y * 2 ^ (64 - bitLen Y) < 18446744073709551616 := by
    calc Y * 2 ^ (64 - bitLen Y) < 2 ^ bitLen Y * 2 ^ (64 - bitLen Y) := Nat.mul_lt_mul_of_pos_right k1 (Nat.two_pow_pos _)
      _ = 2 ^ 64 := by rw [← Nat.pow_add]; congr 1; omega
  have f2 : 9223372036854775808 ≤ Y * 2 ^ (64 - bitLen Y) := by
    calc 9223372036854775808 = 2 ^ (bitLen Y - 1) * 2 ^ (64 - bitLen Y) := by rw [← Nat.pow_add, show bitLen Y - 1 + (64 - bitLen Y) = 63 by omega]
      _ ≤ Y * 2 ^ (64 - bitLen Y) := Nat.mul_le_mul_right _ k3
  have H1 : Hid _ := f1
  have H2 : Hid _ := f2
  clear f1 f2 k1 k2 k3
  go_enter Tryz.func189, Tryz.ntmps189
  go_wp2_with fail
  refine (len64 _ (Int.le_of_lt y0) y1 _).mono ?_
  rintro e w' ⟨rfl, rfl⟩
  rw [Int.toNat_natCast]
  go_wp2_with fail
  go_ret
  refine ⟨64 - bitLen Y, ret_i64 (by omega), by omega, ?_, ?_, rfl⟩
  · have := H2.out; rw [cast_shift]; omega
  · have := H1.out; rw [cast_shift]; omega
end Go.Proofs.YtkhdcojgcnomgaaGreatDoor

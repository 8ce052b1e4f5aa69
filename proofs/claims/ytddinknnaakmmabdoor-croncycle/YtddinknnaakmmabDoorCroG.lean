/- Package cron: from, and the parts of a text. -/
import Derived.Test.YtddinknnaakmmabDoorCroF
import Derived.Test.YtddinknnaakmmabDoorCroT
import Derived.Test.YtddinknnaakmmabDoorShelfT
import Derived.Shelf.Spec.TrailingZeros
namespace Go.Proofs.YtddinknnaakmmabDoor
open Go.RowKit

/-- The library's table lies where its text lays it. -/
def TzAt (w : World) : Prop := (∀ j, j < Lib.deBruijn64tab.length → w.cell? ⟨2, j, none⟩ = some (.int .u8 (Lib.deBruijn64tab.getD j 0 : Nat))) ∧ 2 < w.heap.size
theorem TzAt.later {w w' : World} (h : TzAt w) (hb : Below w.heap.size w w') : TzAt w' :=
  ⟨fun j hj => (hb.cell (p := ⟨2, j, none⟩) h.2).trans (h.1 j hj), Nat.lt_of_lt_of_le h.2 hb.size⟩
set_option maxHeartbeats 1000000 in
theorem tz_core (x k idx : Nat) (w : World) (hx0 : ((x : Int) == 0) = false)
    (key : IntKind.u64.wrap (bits BinOp.and IntKind.u64 (x : Int) (IntKind.u64.wrap (-(x : Int))) * 285870213051353865) / 288230376151711744 = (idx : Int))
    (hi : idx < 64) (hk : k < 64) (hcell : w.cell? ⟨2, idx, none⟩ = some (.int .u8 k)) :
    Calls Tryd.prog 33 #[.int .u64 x] w fun e w' => e = .returned (.int .i64 k) ∧ w = w' := by
  go_enter Tryd.func33, Tryd.ntmps33
  go_wp2_with (simp only [key])
  go_ret
  exact ⟨rfl, rfl⟩
theorem tz_zero (w : World) : Calls Tryd.prog 33 #[.int .u64 0] w fun e w' => e = .returned (.int .i64 64) ∧ w = w' := by
  go_enter Tryd.func33, Tryd.ntmps33
  go_wp2_with fail
  go_ret
  exact ⟨rfl, rfl⟩
theorem tz_any (x : Nat) (hx : x < 18446744073709551616) (w : World) (hT : TzAt w) :
    Calls Tryd.prog 33 #[.int .u64 x] w fun e w' => e = .returned (.int .i64 (Lib.ctz 64 x : Nat)) ∧ w = w' := by
  by_cases hx0 : x = 0
  · rw [hx0]
    exact tz_zero w
  · obtain ⟨hlow, hk⟩ := Lib.lowest_bit 64 x hx0 hx
    obtain ⟨hi, htab⟩ := Lib.deBruijn64_at _ hk
    have hcell := hT.1 _ hi
    rw [htab] at hcell
    exact tz_core x _ _ w (beq_eq_false_iff_ne.2 (by omega)) (tz64_key x _ hx hx0 hlow) hi hk hcell

theorem mul_bit (x n i : Nat) : (x / 2 ^ n * 2 ^ n).testBit i = (decide (n ≤ i) && x.testBit i) := by
  rw [Nat.mul_comm, Nat.testBit_two_pow_mul, Nat.testBit_div_two_pow]
  by_cases h : n ≤ i
  · have e : i - n + n = i := by omega
    simp [h, e]
  · simp [h]
theorem ctz_spec (x : Nat) (h0 : x ≠ 0) (hx : x < 18446744073709551616) : Lib.ctz 64 x < 64 ∧ x.testBit (Lib.ctz 64 x) = true ∧ ∀ i, i < Lib.ctz 64 x → x.testBit i = false := by
  have e : Lib.ctz 64 x = Lib.ctzFrom 64 x := by unfold Lib.ctz; rw [if_neg h0]
  rw [e]
  obtain ⟨m, hm, hk⟩ := Lib.ctzFrom_spec 64 x (by omega) hx
  generalize Lib.ctzFrom 64 x = k at *
  subst hm
  refine ⟨hk, ?_, fun i hi => ?_⟩
  · rw [Nat.testBit_two_pow_mul]; simp
  · rw [Nat.testBit_two_pow_mul]; simp; omega
/-- What from answers. -/
def FromR (S n k : Nat) (b : Bool) : Prop := (b = true → Nx S n k) ∧ (b = false → k = 64 ∧ ∀ i, n ≤ i → S.testBit i = false)
def FromPost (S n : Nat) (w : World) (e : Ending) (w' : World) : Prop := ∃ k b, e = .returned (.tuple #[.int .i64 (k : Nat), .bool b]) ∧ FromR S n k b ∧ k ≤ 64 ∧ ∃ m, w' = w.drewN m
set_option maxHeartbeats 1000000 in
theorem from_any (S n : Nat) (hS : S < 18446744073709551616) (hn : n ≤ 64) (w : World) (hT : TzAt w) :
    Calls Tryd.prog 22 #[.int .u64 S, .int .i64 n] w (FromPost S n w) := by
  have hle : S / 2 ^ n * 2 ^ n ≤ S := Nat.div_mul_le_self _ _
  have e1 : IntKind.u64.wrap ((S : Int) / 2 ^ n * 2 ^ n) = ((S / 2 ^ n * 2 ^ n : Nat) : Int) := by
    have : ((S : Int) / 2 ^ n * 2 ^ n) = ((S / 2 ^ n * 2 ^ n : Nat) : Int) := by simp
    rw [this, IntKind.wrap_u64]
    omega
  have e1' : IntKind.u64.wrap ((S : Int) / 2 ^ min n 64 * 2 ^ min n 64) = ((S / 2 ^ n * 2 ^ n : Nat) : Int) := by rw [Nat.min_eq_left hn]; exact e1
  have hz := tz_any (S / 2 ^ n * 2 ^ n) (by omega)
  have hR : FromR S n (Lib.ctz 64 (S / 2 ^ n * 2 ^ n)) (((S / 2 ^ n * 2 ^ n : Nat) : Int) != 0) := by
    constructor
    · intro h
      have h0 : S / 2 ^ n * 2 ^ n ≠ 0 := by have := bne_iff_ne.1 h; omega
      obtain ⟨c1, c2, c3⟩ := ctz_spec _ h0 (by omega)
      rw [mul_bit, Bool.and_eq_true, decide_eq_true_eq] at c2
      refine ⟨c2.1, c1, c2.2, fun i h1 h2 => ?_⟩
      have := c3 i h2
      rw [mul_bit] at this
      simpa [h1] using this
    · intro h
      have h0 : S / 2 ^ n * 2 ^ n = 0 := by have := bne_eq_false_iff_eq.1 h; omega
      refine ⟨by rw [h0]; rfl, fun i h1 => ?_⟩
      have := mul_bit S n i
      rw [h0, Nat.zero_testBit] at this
      simpa [h1] using this.symm
  have hk : Lib.ctz 64 (S / 2 ^ n * 2 ^ n) ≤ 64 := by
    by_cases h0 : S / 2 ^ n * 2 ^ n = 0
    · rw [h0]; decide
    · exact Nat.le_of_lt (ctz_spec _ h0 (by omega)).1
  have HR : Hid _ := hR
  have HK : Hid _ := hk
  clear hR hk hle
  generalize S / 2 ^ n * 2 ^ n = X at *
  generalize Lib.ctz 64 X = k at *
  go_enter Tryd.func22, Tryd.ntmps22
  go_wp2_with fail
  refine (hz _ hT).mono ?_
  rintro e w1 ⟨rfl, rfl⟩
  go_wp2_with fail
  go_ret2
  exact ⟨_, _, rfl, HR.out, HK.out, 0, rfl⟩

set_option maxHeartbeats 1000000 in
theorem runEnd_any (S n : Nat) (hS : S < 18446744073709551616) (hn : n < 64) (w : World) :
    Calls Tryd.prog 23 #[.int .u64 S, .int .i64 n] w fun e w' => e = .returned (.int .i64 (endOf S n : Nat)) ∧ w = w' := by
  have he := fun k (h : Ends S n k) => h.unique hS hn
  have HE : Hid _ := he
  clear he
  go_enter Tryd.func23, Tryd.ntmps23
  go_wp2_with fail
  go_loopw [5] (fun p wr => ∃ k : Nat, p = .int .i64 k ∧ n ≤ k ∧ k < 64 ∧ (∀ i, n < i → i ≤ k → S.testBit i = true) ∧ w = wr) (fun p _ => (64 - intOf p).toNat)
  case atStart => exact ⟨n, rfl, Nat.le_refl _, hn, fun i h1 h2 => absurd h1 (by omega), rfl⟩
  case round =>
    obtain ⟨k, rfl, h1, h2, h3, rfl⟩ := hrel
    have hh := holds_any S (k + 1) hS (by omega)
    rw [show ((k + 1 : Nat) : Int) = (k : Int) + 1 by omega] at hh
    cases hb : S.testBit (k + 1) with
    | false =>
      have hE := HE.out k ⟨h1, h2, h3, hb⟩
      rw [hb] at hh
      have HX : Hid _ := hE
      clear hE hb h3
      go_wp2_with fail
      refine (hh _).mono ?_
      rintro e w1 ⟨rfl, rfl⟩
      go_wp2_with fail
      go_ret
      exact ⟨by rw [← HX.out]; rfl, rfl⟩
    | true =>
      have hlt := bit_lt hS hb
      have h3' : ∀ i, n < i → i ≤ k + 1 → S.testBit i = true := fun i q1 q2 => by
        by_cases hi : i = k + 1
        · rw [hi]; exact hb
        · exact h3 i q1 (by omega)
      rw [hb] at hh
      have HX : Hid _ := h3'
      clear hb h3 h3'
      go_wp2_with fail
      refine (hh _).mono ?_
      rintro e w1 ⟨rfl, rfl⟩
      go_wp2_with fail
      exact ⟨⟨k + 1, by go_num, by omega, hlt, HX.out, trivial⟩, by simp [intOf]; omega⟩

abbrev strV (l : List UInt8) : Value := .string ⟨l.toArray⟩
theorem add_str (x y : List UInt8) (hx : x.length ≤ 1000) (hy : y.length ≤ 1000) (w : World) : (Op.stringOp .add ⟨x.toArray⟩ ⟨y.toArray⟩).run Tryd.prog w = .ok (strV (x ++ y)) w := by
  have h := run_string_add_sum (P := Tryd.prog) w ⟨x.toArray⟩ ⟨y.toArray⟩ (by
    have e1 : (ByteArray.mk x.toArray).size = x.length := by simp [ByteArray.size]
    have e2 : (ByteArray.mk y.toArray).size = y.length := by simp [ByteArray.size]
    omega)
  rw [h]
  congr 2
set_option maxHeartbeats 1000000 in
theorem runText_any (a b : Nat) (hab : a ≤ b) (hb : b < 64) (w : World) :
    Calls Tryd.prog 24 #[.int .i64 a, .int .i64 b] w fun e w' => e = .returned (strV (runT a b)) ∧ ∃ m, w' = w.drewN m := by
  have ia := Go.Proofs.Tryd.strconv_Itoa_small a (by omega)
  have ib := Go.Proofs.Tryd.strconv_Itoa_small b (by omega)
  rw [dec_digits a (by omega)] at ia
  rw [dec_digits b (by omega)] at ib
  have la := dec_len a
  have lb := dec_len b
  by_cases h0 : b = a
  · have e : runT a b = dec a := if_pos h0
    rw [e]
    clear e
    have k0 : (b : Int) - (a : Int) = 0 := by omega
    have H0 : Hid _ := h0
    clear h0
    go_enter Tryd.func24, Tryd.ntmps24
    go_wp2_with fail
    refine (ia _).mono ?_
    rintro e w1 ⟨rfl, rfl⟩
    go_wp2_with fail
    go_ret
    exact ⟨rfl, 0, rfl⟩
  · have k0 : ((b : Int) - (a : Int) == 0) = false := beq_eq_false_iff_ne.2 (by omega)
    by_cases h1 : b = a + 1
    · have e : runT a b = dec a ++ 44 :: dec b := by unfold runT; rw [if_neg h0, if_pos h1]
      rw [e]
      have k1 : ((b : Int) - (a : Int) == 1) = true := beq_iff_eq.2 (by omega)
      have s1 := fun wx => add_str (dec a) [44] (by omega) (by simp) wx
      have s2 := fun wx => add_str (dec a ++ [44]) (dec b) (by simp; omega) (by omega) wx
      have eq : dec a ++ [44] ++ dec b = dec a ++ 44 :: dec b := by simp
      rw [eq] at s2
      have H0 : Hid _ := h1
      clear e h0 h1 eq
      generalize dec a ++ 44 :: dec b = all at *
      generalize dec a ++ [44] = pre at *
      generalize dec a = da at *
      generalize dec b = db at *
      go_enter Tryd.func24, Tryd.ntmps24
      go_wp2_with fail
      refine (ia _).mono ?_
      rintro e w1 ⟨rfl, rfl⟩
      go_wp2_with fail
      refine (ib _).mono ?_
      rintro e w2 ⟨rfl, rfl⟩
      go_wp2_with fail
      go_ret
      exact ⟨rfl, 0, rfl⟩
    · have e : runT a b = dec a ++ 45 :: dec b := by unfold runT; rw [if_neg h0, if_neg h1]
      rw [e]
      have k1 : ((b : Int) - (a : Int) == 1) = false := beq_eq_false_iff_ne.2 (by omega)
      have s1 := fun wx => add_str (dec a) [45] (by omega) (by simp) wx
      have s2 := fun wx => add_str (dec a ++ [45]) (dec b) (by simp; omega) (by omega) wx
      have eq : dec a ++ [45] ++ dec b = dec a ++ 45 :: dec b := by simp
      rw [eq] at s2
      have H0 : Hid _ := h1
      clear e h0 h1 eq
      generalize dec a ++ 45 :: dec b = all at *
      generalize dec a ++ [45] = pre at *
      generalize dec a = da at *
      generalize dec b = db at *
      go_enter Tryd.func24, Tryd.ntmps24
      go_wp2_with fail
      refine (ia _).mono ?_
      rintro e w1 ⟨rfl, rfl⟩
      go_wp2_with fail
      refine (ib _).mono ?_
      rintro e w2 ⟨rfl, rfl⟩
      go_wp2_with fail
      go_ret
      exact ⟨rfl, 0, rfl⟩
end Go.Proofs.YtddinknnaakmmabDoor

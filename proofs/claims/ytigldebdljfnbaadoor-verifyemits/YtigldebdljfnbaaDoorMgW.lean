import Derived.Test.YtigldebdljfnbaaDoorMoM
import Derived.Laws.Bits64b
import Derived.WalkSpells
import Derived.BigQuiet
import Derived.Deep.RegionHeld3
import Derived.Deep.MidRow
namespace Go.Proofs.YtigldebdljfnbaaDoor
open Go.RowKit

def setOf (p : Nat → Bool) : Nat → Nat
  | 0 => 0
  | n + 1 => setOf p n + if p n then 2 ^ n else 0
theorem setOf_lt (p : Nat → Bool) : ∀ n, setOf p n < 2 ^ n
  | 0 => by simp [setOf]
  | n + 1 => by
    have h := setOf_lt p n
    unfold setOf
    rw [Nat.pow_succ]
    split <;> omega
theorem setOf_bit (p : Nat → Bool) (i : Nat) : ∀ n, (setOf p n).testBit i = (decide (i < n) && p i)
  | 0 => by simp [setOf]
  | n + 1 => by
    have ih := setOf_bit p i n
    unfold setOf
    by_cases hp : p n = true
    · rw [if_pos hp, Nat.add_comm]
      rcases Nat.lt_trichotomy i n with h | h | h
      · rw [Nat.testBit_two_pow_add_gt h, ih]
        simp [h, Nat.lt_succ_of_lt h]
      · subst h
        rw [Nat.testBit_two_pow_add_eq, ih]
        simp [hp]
      · have hl := setOf_lt p (n + 1)
        unfold setOf at hl
        rw [if_pos hp, Nat.add_comm] at hl
        rw [Nat.testBit_lt_two_pow (Nat.lt_of_lt_of_le hl (Nat.pow_le_pow_right (by decide) h))]
        simp; omega
    · rw [if_neg hp, Nat.add_zero, ih]
      by_cases h : i = n
      · subst h; simp [Bool.eq_false_iff.2 hp]
      · have e : decide (i < n + 1) = decide (i < n) := by rw [decide_eq_decide]; omega
        rw [e]
def evUp (a n m : Nat) : Nat := setOf (fun k => decide (a ≤ k ∧ k < m ∧ (k - a) % n = 0)) 64
def evS (a b n : Nat) : Nat := evUp a n (b + 1)
theorem evUp_bit (a n m i : Nat) : (evUp a n m).testBit i = decide (i < 64 ∧ a ≤ i ∧ i < m ∧ (i - a) % n = 0) := by
  unfold evUp
  rw [setOf_bit]
  simp [Bool.decide_and]
theorem evUp_lt (a n m : Nat) : evUp a n m < 18446744073709551616 := setOf_lt _ 64
theorem evUp_first (a n : Nat) : evUp a n a = 0 := by
  apply Nat.eq_of_testBit_eq
  intro i
  rw [evUp_bit, Nat.zero_testBit, decide_eq_false_iff_not]
  omega
theorem mod_move {a n m i : Nat} (h0 : a ≤ m) (hm : (m - a) % n = 0) (hi : m ≤ i) (hj : i < m + n) : (i - a) % n = 0 ↔ i = m := by
  have e : i - a = (m - a) + (i - m) := by omega
  rw [e, Nat.add_mod, hm, Nat.zero_add, Nat.mod_mod, Nat.mod_eq_of_lt (by omega)]
  omega
theorem evUp_bit_next (a n m i : Nat) (h0 : a ≤ m) (hm : (m - a) % n = 0) (hn : 1 ≤ n) (hlt : m < 64) : (evUp a n (m + n)).testBit i = ((evUp a n m).testBit i || decide (m = i)) := by
  rw [evUp_bit, evUp_bit, ← Bool.decide_or, decide_eq_decide]
  constructor
  · rintro ⟨h1, h2, h3, h4⟩
    by_cases hk : i < m
    · exact .inl ⟨h1, h2, hk, h4⟩
    · exact .inr ((mod_move h0 hm (by omega) h3).1 h4).symm
  · rintro (⟨h1, h2, h3, h4⟩ | h)
    · exact ⟨h1, h2, by omega, h4⟩
    · subst h; exact ⟨hlt, h0, by omega, hm⟩
theorem evUp_next (a n m : Nat) (h0 : a ≤ m) (hm : (m - a) % n = 0) (hn : 1 ≤ n) (hlt : m < 64) : evUp a n m ||| 2 ^ m = evUp a n (m + n) := by
  apply Nat.eq_of_testBit_eq
  intro i
  rw [Nat.testBit_or, Nat.testBit_two_pow, evUp_bit_next a n m i h0 hm hn hlt]
theorem evUp_end (a b n m : Nat) (h0 : a ≤ m) (hm : (m - a) % n = 0) (h1 : b < m) (h2 : m ≤ b + n) (hab : a ≤ b) : evUp a n m = evS a b n := by
  apply Nat.eq_of_testBit_eq
  intro i
  unfold evS
  rw [evUp_bit, evUp_bit, decide_eq_decide]
  constructor
  · rintro ⟨k1, k2, k3, k4⟩
    refine ⟨k1, k2, ?_, k4⟩
    by_cases hk : i < b + 1
    · exact hk
    · exfalso
      -- i lies in [m - n, m) above b, so i = m - n, which isn't above b
      have hn : a + n ≤ m := by
        have : n ≤ m - a := by
          rcases Nat.eq_zero_or_pos (m - a) with h | h
          · omega
          · exact Nat.le_of_dvd h (Nat.dvd_of_mod_eq_zero hm)
        omega
      have hm' : (m - n - a) % n = 0 := by
        have e : m - a = (m - n - a) + n := by omega
        rw [e, Nat.add_mod_right] at hm
        exact hm
      have := (mod_move (a := a) (n := n) (m := m - n) (i := i) (by omega) hm' (by omega) (by omega)).1 k4
      omega
  · rintro ⟨k1, k2, k3, k4⟩
    exact ⟨k1, k2, by omega, k4⟩

def lowN : Nat → Nat
  | 0 => 0 | 1 => 0 | 2 => 1 | 3 => 1 | _ => 0
def highN : Nat → Nat
  | 0 => 59 | 1 => 23 | 2 => 31 | 3 => 12 | _ => 6
theorem highN_lt (i : Nat) : highN i < 64 := by
  unfold highN; split <;> decide
theorem low_high (i : Nat) : lowN i ≤ highN i := by
  unfold lowN highN; split <;> simp
theorem pow_lt64 {a : Nat} (h : a < 64) : 2 ^ a < 18446744073709551616 := Nat.pow_lt_pow_right (by decide) h
theorem bit_lt {S i : Nat} (hS : S < 18446744073709551616) (h : S.testBit i = true) : i < 64 := by
  rcases Nat.lt_or_ge i 64 with k | k
  · exact k
  · rw [Nat.testBit_lt_two_pow (Nat.lt_of_lt_of_le (show S < 2 ^ 64 from hS) (Nat.pow_le_pow_right (by decide) k))] at h
    cases h
structure Cr where
  a : Nat
  b : Nat
  c : Nat
  d : Nat
  e : Nat
theorem cast_pow (m : Nat) : ((2 ^ m : Nat) : Int) = (2 : Int) ^ m := by simp
theorem shl_one (m : Nat) (h : m < 64) : IntKind.u64.wrap ((2 : Int) ^ m) = (2 : Int) ^ m := by
  have h1 : ((2 ^ m : Nat) : Int) < 18446744073709551616 := by have := pow_lt64 h; omega
  have h0 : 0 ≤ ((2 ^ m : Nat) : Int) := Int.natCast_nonneg _
  rw [cast_pow] at h0 h1
  rw [IntKind.wrap_u64]
  exact Int.emod_eq_of_lt h0 h1
set_option maxHeartbeats 400000 in
theorem every_any (a b k : Nat) (hab : a ≤ b) (hS : b < 64) (hk1 : 1 ≤ k) (hk : k ≤ 99) (w : World) :
    Calls Tryd.prog 53 #[.int .i64 a, .int .i64 b, .int .i64 k] w fun e w' => e = .returned (.int .u64 (evS a b k : Nat)) ∧ w = w' := by
  go_enter Tryd.func53, Tryd.ntmps53
  go_wp2_with fail
  go_loopw [7, 8] (fun p q wr => ∃ m : Nat, p = .int .u64 (evUp a k m : Nat) ∧ q = .int .i64 m ∧ a ≤ m ∧ (m - a) % k = 0 ∧ m ≤ b + k ∧ w = wr) (fun _ q _ => (200 - intOf q).toNat)
  case atStart => exact ⟨a, by rw [evUp_first]; rfl, rfl, Nat.le_refl _, by simp, by omega, rfl⟩
  case round =>
    obtain ⟨m, rfl, rfl, h0, hm, h1, rfl⟩ := hrel
    by_cases hlt : m ≤ b
    · have e := evUp_next a k m h0 hm hk1 (by omega)
      have hm' : (m + k - a) % k = 0 := by rw [show m + k - a = (m - a) + k by omega, Nat.add_mod_right]; exact hm
      have E : Hid _ := e
      have HM : Hid _ := hm'
      clear e hm hm'
      have q1 := evUp_lt a k m
      have e2 := bits_or_u64_nat (evUp a k m) (2 ^ m) q1 (pow_lt64 (show m < 64 by omega))
      rw [E.out, cast_pow] at e2
      have e1 := shl_one m (by omega)
      go_wp2_with fail
      exact ⟨⟨m + k, rfl, by go_num, by omega, HM.out, by omega, trivial⟩, by simp [intOf]; omega⟩
    · have e := evUp_end a b k m h0 hm (by omega) h1 hab
      have E : Hid _ := e
      clear e hm
      go_wp2_with fail
      go_ret
      exact ⟨by rw [E.out]; rfl, rfl⟩
abbrev fldV (lo hi : Nat) : Value := .agg #[.int .i64 lo, .int .i64 hi]
abbrev cronV (c : Cr) : Value := .agg #[.int .u64 (c.a : Nat), .int .u64 (c.b : Nat), .int .u64 (c.c : Nat), .int .u64 (c.d : Nat), .int .u64 (c.e : Nat)]
abbrev fldCells : List Value := [.int .i64 0, .int .i64 59, .int .i64 0, .int .i64 23, .int .i64 1, .int .i64 31, .int .i64 1, .int .i64 12, .int .i64 0, .int .i64 6]
def FldAt (w : World) : Prop := w.rangeAt 1 0 fldCells ∧ 1 < w.heap.size
theorem FldAt.later {w w' : World} (h : FldAt w) (hb : Below w.heap.size w w') : FldAt w' :=
  ⟨fun j v hv => (hb.cell (p := ⟨1, 0 + j, none⟩) h.2).trans (h.1 j v hv), Nat.lt_of_lt_of_le h.2 hb.size⟩
theorem FldAt.cell {w : World} (h : FldAt w) (j : Nat) (v : Value) (hv : fldCells[j]? = some v) : w.cell? ⟨1, j, none⟩ = some v := by
  have := h.1 j v hv
  rwa [Nat.zero_add] at this
abbrev u5 (a b c d e : Nat) : List Value := [.int .u64 (a : Nat), .int .u64 (b : Nat), .int .u64 (c : Nat), .int .u64 (d : Nat), .int .u64 (e : Nat)]
theorem crbelow_two {w : World} (o o' : Obj) : Below w.heap.size w ((w.alloc o).alloc o') := ((Below.refl _ _).alloc (Nat.le_refl _) _).alloc (by simp) _
theorem sets_any (a b c d e : Nat) (w : World) :
    Calls Tryd.prog 51 #[cronV ⟨a, b, c, d, e⟩] w fun x w' => x = .returned (.agg (u5 a b c d e).toArray) ∧ Below w.heap.size w w' := by
  go_enter Tryd.func51, Tryd.ntmps51
  go_wp2_with fail
  refine bodyPost_ret (v := .agg (u5 a b c d e).toArray) (by simp [results, Tryd.results51, go_sem]) rfl ⟨rfl, crbelow_two _ _⟩

def Cr.get (c : Cr) : Nat → Nat
  | 0 => c.a | 1 => c.b | 2 => c.c | 3 => c.d | _ => c.e
structure Cr.Fits (x : Cr) : Prop where
  a : x.a < 18446744073709551616
  b : x.b < 18446744073709551616
  c : x.c < 18446744073709551616
  d : x.d < 18446744073709551616
  e : x.e < 18446744073709551616
theorem Cr.Fits.get {c : Cr} (h : c.Fits) (i : Nat) : c.get i < 18446744073709551616 := by
  unfold Cr.get
  split
  · exact h.a
  · exact h.b
  · exact h.c
  · exact h.d
  · exact h.e
def okB (S lo hi : Nat) : Bool := decide (S ≠ 0) && (List.range 64).all fun i => !S.testBit i || (decide (lo ≤ i) && decide (i ≤ hi))
theorem okB_iff (S lo hi : Nat) : okB S lo hi = true ↔ S ≠ 0 ∧ ∀ i, i < 64 → S.testBit i = true → lo ≤ i ∧ i ≤ hi := by
  unfold okB
  rw [Bool.and_eq_true, decide_eq_true_eq, List.all_eq_true]
  refine and_congr Iff.rfl ⟨fun h i hi hb => ?_, fun h i hi => ?_⟩
  · have := h i (List.mem_range.2 hi)
    rw [hb] at this
    simpa using this
  · cases hb : S.testBit i with
    | false => rfl
    | true => have := h i (List.mem_range.1 hi) hb; simp [this.1, this.2]
def cfB (c : Cr) : Bool := (List.range 5).all fun i => okB (c.get i) (lowN i) (highN i)
theorem cfB_iff (c : Cr) : cfB c = true ↔ ∀ i, i < 5 → okB (c.get i) (lowN i) (highN i) = true := by
  unfold cfB
  rw [List.all_eq_true]
  exact ⟨fun h i hi => h i (List.mem_range.2 hi), fun h i hi => h i (List.mem_range.1 hi)⟩
theorem cfB_no {c : Cr} {i : Nat} (hi : i < 5) (h : okB (c.get i) (lowN i) (highN i) = false) : cfB c = false := by
  cases hc : cfB c with
  | false => rfl
  | true => rw [(cfB_iff c).1 hc i hi] at h; cases h
theorem sub_bit (A i : Nat) (hA : A < 18446744073709551616) : (18446744073709551615 - A).testBit i = (decide (i < 64) && !A.testBit i) := by
  have e : 18446744073709551615 - A = 2 ^ 64 - (A + 1) := by omega
  rw [e, Nat.testBit_two_pow_sub_succ (show A < 2 ^ 64 from hA)]
theorem okB_and (S lo hi : Nat) (hS : S < 18446744073709551616) : okB S lo hi = (decide (S ≠ 0) && decide (S &&& (18446744073709551615 - evS lo hi 1) = 0)) := by
  unfold okB
  congr 1
  rw [Bool.eq_iff_iff, List.all_eq_true, decide_eq_true_eq]
  constructor
  · intro h
    apply Nat.eq_of_testBit_eq
    intro i
    unfold evS
    rw [Nat.testBit_and, sub_bit _ _ (evUp_lt _ _ _), Nat.zero_testBit, evUp_bit]
    by_cases hi64 : i < 64
    · have := h i (List.mem_range.2 hi64)
      cases hb : S.testBit i with
      | false => rfl
      | true =>
        rw [hb] at this
        simp at this
        simp [hi64, this.1, Nat.lt_succ_of_le this.2, Nat.mod_one]
    · rw [Nat.testBit_lt_two_pow (Nat.lt_of_lt_of_le (show S < 2 ^ 64 from hS) (Nat.pow_le_pow_right (by decide) (by omega)))]
      rfl
  · intro h i hi64
    have hi64 := List.mem_range.1 hi64
    have hb := congrArg (fun x => Nat.testBit x i) h
    simp only [Nat.testBit_and, Nat.zero_testBit] at hb
    unfold evS at hb
    rw [sub_bit _ _ (evUp_lt _ _ _), evUp_bit] at hb
    cases hb2 : S.testBit i with
    | false => rfl
    | true =>
      rw [hb2] at hb
      simp [hi64, Nat.mod_one] at hb
      simp
      omega
theorem all_any (lo hi : Nat) (h : lo ≤ hi) (hh : hi < 64) (w : World) :
    Calls Tryd.prog 52 #[fldV lo hi] w fun e w' => e = .returned (.int .u64 (evS lo hi 1 : Nat)) ∧ Below w.heap.size w w' := by
  have hv := every_any lo hi 1 h hh (by decide) (by decide)
  go_enter Tryd.func52, Tryd.ntmps52
  go_wp2_with fail
  refine (hv _).mono ?_
  rintro e w1 ⟨rfl, rfl⟩
  go_wp2_with fail
  go_ret
  exact ⟨rfl, (Below.refl _ _).alloc (Nat.le_refl _) _⟩
theorem idx_set (c : Cr) (k : Nat) (h : k < 5) (w : World) : (Instr.index 87 (.agg (u5 c.a c.b c.c c.d c.e).toArray) (.int .i64 k)).run Tryd.prog w = .ok (.int .u64 (c.get k : Nat)) w := by
  rcases (show k = 0 ∨ k = 1 ∨ k = 2 ∨ k = 3 ∨ k = 4 by omega) with rfl | rfl | rfl | rfl | rfl
  all_goals kernel_rfl
theorem FldAt.row {w : World} (h : FldAt w) (i : Nat) (hi : i < 5) : w.cell? ⟨1, i * 2, none⟩ = some (.int .i64 (lowN i : Nat)) ∧ w.cell? ⟨1, i * 2 + 1, none⟩ = some (.int .i64 (highN i : Nat)) := by
  rcases (show i = 0 ∨ i = 1 ∨ i = 2 ∨ i = 3 ∨ i = 4 by omega) with rfl | rfl | rfl | rfl | rfl
  all_goals exact ⟨h.cell _ _ rfl, h.cell _ _ rfl⟩
def FormedPost (c : Cr) (w : World) (e : Ending) (w' : World) : Prop := e = .returned (.bool (cfB c)) ∧ Below w.heap.size w w'
set_option maxHeartbeats 4000000 in
theorem Formed_any (c : Cr) (fc : c.Fits) (w : World) (hF : FldAt w) :
    Calls Tryd.prog 48 #[cronV c] w (FormedPost c w) := by
  obtain ⟨cb, l0⟩ := one_box w 75 (u5 c.a c.b c.c c.d c.e)
  obtain ⟨o0, o1, o2, o3, o4, _⟩ := cb.five
  have hs := sets_any c.a c.b c.c c.d c.e
  go_enter Tryd.func48, Tryd.ntmps48
  go_wp2_with fail
  refine (hs _).mono ?_
  rintro e w1 ⟨rfl, hb1⟩
  go_wp2_with fail
  have hF1 := (hF.later l0).later hb1
  have bl1 := l0.trans (hb1.mono l0.size)
  go_loopw [7] (fun p wr => ∃ i : Nat, p = .int .i64 i ∧ i ≤ 5 ∧ (∀ j, j < i → okB (c.get j) (lowN j) (highN j) = true) ∧ FldAt wr ∧ Below w.heap.size w wr) (fun p _ => (5 - intOf p).toNat)
  case atStart => exact ⟨0, rfl, by decide, fun j hj => absurd hj (by omega), hF1, bl1⟩
  case round =>
    obtain ⟨i, rfl, hi, hok, hFr, bl⟩ := hrel
    by_cases hlt : i < 5
    · have hix := idx_set c i hlt
      have k1 : (i : Int) < 5 := by omega
      have hfi := fc.get i
      have hall := fun wx => all_any (lowN i) (highN i) (low_high i) (highN_lt i) wx
      have hand := u64_andNot_nat (c.get i) (evS (lowN i) (highN i) 1) hfi (evUp_lt _ _ _)
      have hokb := okB_and (c.get i) (lowN i) (highN i) hfi
      obtain ⟨q0, q1⟩ := hFr.row i hlt
      by_cases h0 : c.get i = 0
      · have hno := cfB_no (c := c) hlt (by rw [hokb, h0]; rfl)
        have h0' : (((c.get i : Nat) : Int) == 0) = true := beq_iff_eq.2 (by omega)
        have HNO : Hid _ := hno
        clear hokb hno hand hok h0
        generalize c.get i = S at *
        generalize lowN i = lo at *
        generalize highN i = hi5 at *
        go_wp2_with fail
        go_ret
        exact ⟨by rw [HNO.out]; rfl, bl⟩
      · have h0' : (((c.get i : Nat) : Int) == 0) = false := beq_eq_false_iff_ne.2 (by omega)
        by_cases hx : c.get i &&& (18446744073709551615 - evS (lowN i) (highN i) 1) = 0
        · have hk : okB (c.get i) (lowN i) (highN i) = true := by rw [hokb]; simp [h0, hx]
          have hok' : ∀ j, j < i + 1 → okB (c.get j) (lowN j) (highN j) = true := fun j hj => by
            rcases Nat.lt_or_ge j i with h | h
            · exact hok j h
            · obtain rfl : j = i := by omega
              exact hk
          rw [hx] at hand
          have HX : Hid _ := hok'
          clear hok hk hokb hok' hx h0
          generalize evS (lowN i) (highN i) 1 = A at *
          generalize c.get i = S at *
          generalize lowN i = lo at *
          generalize highN i = hi5 at *
          go_wp2_with fail
          refine (hall _).mono ?_
          rintro e w2 ⟨rfl, hb2⟩
          go_wp2_with fail
          exact ⟨⟨i + 1, by go_num, by omega, HX.out, hFr.later hb2, bl.trans (hb2.mono bl.size)⟩, by simp [intOf]; omega⟩
        · have hno := cfB_no (c := c) hlt (by rw [hokb]; simp [hx])
          have hx' : ((((c.get i &&& (18446744073709551615 - evS (lowN i) (highN i) 1) : Nat) : Int) != 0)) = true := bne_iff_ne.2 (by omega)
          have HNO : Hid _ := hno
          clear hok hokb hno hx h0
          generalize c.get i &&& (18446744073709551615 - evS (lowN i) (highN i) 1) = X at *
          generalize evS (lowN i) (highN i) 1 = A at *
          generalize c.get i = S at *
          generalize lowN i = lo at *
          generalize highN i = hi5 at *
          go_wp2_with fail
          refine (hall _).mono ?_
          rintro e w2 ⟨rfl, hb2⟩
          go_wp2_with fail
          go_ret
          exact ⟨by rw [HNO.out]; rfl, bl.trans (hb2.mono bl.size)⟩
    · obtain rfl : i = 5 := by omega
      have hyes := (cfB_iff c).2 hok
      have HNO : Hid _ := hyes
      clear hyes hok
      go_wp2_with fail
      go_ret
      exact ⟨by rw [HNO.out]; rfl, bl⟩
--@if{capstanref04.Has}
theorem has_key (S n : Nat) : (((S : Int) / 2 ^ n).tmod 2 == 1) = S.testBit n := by
  have e0 : (S : Int) / 2 ^ n = ((S / 2 ^ n : Nat) : Int) := by simp
  rw [e0, Int.tmod_eq_emod_of_nonneg (Int.natCast_nonneg _), Nat.testBit_eq_decide_div_mod_eq]
  have e1 : ((S / 2 ^ n : Nat) : Int) % 2 = ((S / 2 ^ n % 2 : Nat) : Int) := rfl
  rw [e1]
  rcases Nat.mod_two_eq_zero_or_one (S / 2 ^ n) with h | h <;> rw [h] <;> rfl
set_option maxRecDepth 20000 in
set_option maxHeartbeats 1000000 in
theorem Has_nat (S n : Nat) (hn : n < 64) (w : World) :
    Calls Tryd.prog 29 #[.int .u64 S, .int .i64 n] w fun e w' => e = .returned (.bool (S.testBit n)) ∧ w = w' := by
  have e1 := has_key S n
  go_enter Tryd.func29, Tryd.ntmps29
  go_wp2_with fail
  go_ret
  exact ⟨rfl, rfl⟩
theorem idx_low (k : Nat) (h : k < 5) (w : World) : (Instr.index 108 (.agg #[.int .i64 0, .int .i64 0, .int .i64 1, .int .i64 1, .int .i64 0]) (.int .i64 k)).run Tryd.prog w = .ok (.int .i64 (lowN k : Nat)) w := by
  rcases (show k = 0 ∨ k = 1 ∨ k = 2 ∨ k = 3 ∨ k = 4 by omega) with rfl | rfl | rfl | rfl | rfl
  all_goals kernel_rfl
theorem idx_high (k : Nat) (h : k < 5) (w : World) : (Instr.index 108 (.agg #[.int .i64 59, .int .i64 23, .int .i64 31, .int .i64 12, .int .i64 6]) (.int .i64 k)).run Tryd.prog w = .ok (.int .i64 (highN k : Nat)) w := by
  rcases (show k = 0 ∨ k = 1 ∨ k = 2 ∨ k = 3 ∨ k = 4 by omega) with rfl | rfl | rfl | rfl | rfl
  all_goals kernel_rfl
theorem Low_any (k : Nat) (h : k < 5) (w : World) :
    Calls Tryd.prog 30 #[.int .i64 k] w fun e w' => e = .returned (.int .i64 (lowN k : Nat)) ∧ w = w' := by
  have hi := idx_low k h
  generalize lowN k = r at *
  go_enter Tryd.func30, Tryd.ntmps30
  go_wp2_with fail
  go_ret
  exact ⟨rfl, rfl⟩
theorem High_any (k : Nat) (h : k < 5) (w : World) :
    Calls Tryd.prog 31 #[.int .i64 k] w fun e w' => e = .returned (.int .i64 (highN k : Nat)) ∧ w = w' := by
  have hi := idx_high k h
  generalize highN k = r at *
  go_enter Tryd.func31, Tryd.ntmps31
  go_wp2_with fail
  go_ret
  exact ⟨rfl, rfl⟩
set_option maxRecDepth 20000 in
theorem Has_any (S n : Nat) (hS : S < 18446744073709551616) (hn : n ≤ 1000) (w : World) :
    Calls Tryd.prog 29 #[.int .u64 S, .int .i64 n] w fun e w' => e = .returned (.bool (S.testBit n)) ∧ w = w' := by
  by_cases h : n < 64
  · exact Has_nat S n h w
  · have e : S.testBit n = false := by
      cases hb : S.testBit n with
      | false => rfl
      | true => exact absurd (bit_lt hS hb) h
    rw [e]
    have k1 : ¬ (n : Int) < 64 := by omega
    clear e
    go_enter Tryd.func29, Tryd.ntmps29
    go_wp2_with fail
    go_ret
    exact ⟨rfl, rfl⟩
theorem Box.get {w : World} {g : Nat} {c : Cr} (h : Box w g (u5 c.a c.b c.c c.d c.e)) (i : Nat) (hi : i < 5) : w.cell? ⟨g, i, none⟩ = some (.int .u64 (c.get i : Nat)) := by
  rcases (show i = 0 ∨ i = 1 ∨ i = 2 ∨ i = 3 ∨ i = 4 by omega) with rfl | rfl | rfl | rfl | rfl
  all_goals exact h.cell _ _ rfl
set_option maxRecDepth 20000 in
theorem Sets_any (c : Cr) (w : World) :
    Calls Tryd.prog 28 #[cronV c] w fun e w' => e = .returned (.agg (u5 c.a c.b c.c c.d c.e).toArray) ∧ Below w.heap.size w w' := by
  go_enter Tryd.func28, Tryd.ntmps28
  go_wp2_with fail
  refine bodyPost_ret (v := .agg (u5 c.a c.b c.c c.d c.e).toArray) (by simp [results, Tryd.results28, go_sem]) rfl ⟨rfl, crbelow_two _ _⟩
def OkUp (S lo hi n : Nat) : Prop := ∀ m, m < n → S.testBit m = true → lo ≤ m ∧ m ≤ hi
theorem okUp_next {S lo hi n : Nat} (h : OkUp S lo hi n) (k : S.testBit n = true → lo ≤ n ∧ n ≤ hi) : OkUp S lo hi (n + 1) := fun m hm hb => by
  by_cases e : m = n
  · subst e; exact k hb
  · exact h m (by omega) hb
theorem okB_no {S lo hi n : Nat} (hn : n < 64) (hb : S.testBit n = true) (h : ¬ (lo ≤ n ∧ n ≤ hi)) : okB S lo hi = false := by
  cases hk : okB S lo hi with
  | false => rfl
  | true => exact absurd (((okB_iff _ _ _).1 hk).2 n hn hb) h
set_option maxRecDepth 20000 in
set_option maxHeartbeats 4000000 in
theorem rFormed_any (c : Cr) (fc : c.Fits) (w : World) :
    Calls Tryd.prog 18 #[cronV c] w (FormedPost c w) := by
  obtain ⟨cb, l0⟩ := one_box w 75 (u5 c.a c.b c.c c.d c.e)
  obtain ⟨o0, o1, o2, o3, o4, _⟩ := cb.five
  have hs := Sets_any c
  go_enter Tryd.func18, Tryd.ntmps18
  go_wp2_with fail
  refine (hs _).mono ?_
  rintro e w1 ⟨rfl, hb1⟩
  obtain ⟨rb, l1⟩ := one_box w1 87 (u5 c.a c.b c.c c.d c.e)
  have bl1 := l0.trans (hb1.mono l0.size)
  have bl := bl1.trans (l1.mono bl1.size)
  clear o0 o1 o2 o3 o4 cb l0 hs hb1 bl1 l1
  go_wp2_with fail
  have hcell := fun i hi => rb.get i hi
  clear rb
  generalize (w1.alloc (Obj.cells (u5 c.a c.b c.c c.d c.e).toArray 87)) = W at *
  go_loopw [4] (fun p wr => ∃ i : Nat, p = .int .i64 i ∧ i ≤ 5 ∧ (∀ j, j < i → okB (c.get j) (lowN j) (highN j) = true) ∧ W = wr) (fun p _ => (5 - intOf p).toNat)
  case atStart => exact ⟨0, rfl, by decide, (fun j hj => absurd hj (by omega)), rfl⟩
  case round =>
    obtain ⟨i, rfl, hi, hok, rfl⟩ := hrel
    by_cases hlt : i < 5
    · have k1 : (i : Int) < 5 := by omega
      have hc := hcell i hlt
      have hfi := fc.get i
      have hL := Low_any i hlt
      have hH := High_any i hlt
      have hH0 := fun n hn => Has_any (c.get i) n hfi hn
      by_cases h0 : c.get i = 0
      · have hno := cfB_no (c := c) hlt (by rw [okB_and _ _ _ hfi, h0]; rfl)
        have h0' : (((c.get i : Nat) : Int) == 0) = true := beq_iff_eq.2 (by omega)
        have HNO : Hid _ := hno
        clear hno hok h0 hL hH hH0 hcell
        generalize c.get i = S at *
        go_wp2_with fail
        go_ret
        exact ⟨by rw [HNO.out]; rfl, bl⟩
      · have h0' : (((c.get i : Nat) : Int) == 0) = false := beq_eq_false_iff_ne.2 (by omega)
        have hbad := fun n (hn : n < 64) hb hk => cfB_no (c := c) hlt (okB_no (lo := lowN i) (hi := highN i) hn hb hk)
        have hgood := fun (h : OkUp (c.get i) (lowN i) (highN i) 64) => (okB_iff (c.get i) (lowN i) (highN i)).2 ⟨h0, h⟩
        have hok' := fun (h : okB (c.get i) (lowN i) (highN i) = true) j (hj : j < i + 1) => show okB (c.get j) (lowN j) (highN j) = true from by
          rcases Nat.lt_or_ge j i with q | q
          · exact hok j q
          · obtain rfl : j = i := by omega
            exact h
        have HB : Hid _ := hbad
        have HG : Hid _ := hgood
        have HO : Hid _ := hok'
        have HL : Hid _ := hL
        have HH : Hid _ := hH
        have HA : Hid _ := hH0
        clear hbad hgood hok' hok hL hH hH0 h0 hcell
        generalize c.get i = S at *
        generalize lowN i = lo at *
        generalize highN i = hi5 at *
        go_wp2_with fail
        go_loopw [5] (fun p wr => ∃ n : Nat, p = .int .i64 n ∧ n ≤ 64 ∧ OkUp S lo hi5 n ∧ W = wr) (fun p _ => (64 - intOf p).toNat)
        case atStart => exact ⟨0, rfl, by decide, (fun j hj => absurd hj (by omega)), rfl⟩
        case round =>
          obtain ⟨n, rfl, hn, hup, rfl⟩ := hrel
          by_cases hn64 : n < 64
          · have k2 : (n : Int) < 64 := by omega
            have ha := HA.out n (by omega)
            have hnx := fun k => okUp_next (n := n) hup k
            have hbd := HB.out n hn64
            cases hb : S.testBit n with
            | false =>
              rw [hb] at ha
              have HU : Hid _ := hnx (by rw [hb]; intro h; cases h)
              clear hnx hbd hb hup
              go_wp2_with fail
              refine (ha _).mono ?_
              rintro e w2 ⟨rfl, rfl⟩
              go_wp2_with fail
              exact ⟨⟨n + 1, by go_num, by omega, HU.out, trivial⟩, by simp [intOf]; omega⟩
            | true =>
              rw [hb] at ha
              by_cases hlo : n < lo
              · have k3 : (n : Int) < (lo : Int) := by omega
                have HU : Hid _ := hbd hb (by omega)
                clear hnx hbd hb hup
                go_wp2_with fail
                refine (ha _).mono ?_
                rintro e w2 ⟨rfl, rfl⟩
                go_wp2_with fail
                refine (HL.out _).mono ?_
                rintro e w2 ⟨rfl, rfl⟩
                go_wp2_with fail
                go_ret
                exact ⟨by rw [HU.out]; rfl, bl⟩
              · have k3 : ¬ (n : Int) < (lo : Int) := by omega
                by_cases hhi : hi5 < n
                · have k4 : (hi5 : Int) < (n : Int) := by omega
                  have HU : Hid _ := hbd hb (by omega)
                  clear hnx hbd hb hup
                  go_wp2_with fail
                  refine (ha _).mono ?_
                  rintro e w2 ⟨rfl, rfl⟩
                  go_wp2_with fail
                  refine (HL.out _).mono ?_
                  rintro e w2 ⟨rfl, rfl⟩
                  go_wp2_with fail
                  refine (HH.out _).mono ?_
                  rintro e w2 ⟨rfl, rfl⟩
                  go_wp2_with fail
                  go_ret
                  exact ⟨by rw [HU.out]; rfl, bl⟩
                · have k4 : ¬ (hi5 : Int) < (n : Int) := by omega
                  have HU : Hid _ := hnx (fun _ => by omega)
                  clear hnx hbd hb hup
                  go_wp2_with fail
                  refine (ha _).mono ?_
                  rintro e w2 ⟨rfl, rfl⟩
                  go_wp2_with fail
                  refine (HL.out _).mono ?_
                  rintro e w2 ⟨rfl, rfl⟩
                  go_wp2_with fail
                  refine (HH.out _).mono ?_
                  rintro e w2 ⟨rfl, rfl⟩
                  go_wp2_with fail
                  exact ⟨⟨n + 1, by go_num, by omega, HU.out, trivial⟩, by simp [intOf]; omega⟩
          · obtain rfl : n = 64 := by omega
            have HU : Hid _ := HO.out (HG.out hup)
            clear hup
            go_wp2_with fail
            exact ⟨⟨i + 1, by go_num, by omega, HU.out, trivial⟩, by simp [intOf]; omega⟩
    · obtain rfl : i = 5 := by omega
      have hyes := (cfB_iff c).2 hok
      have HNO : Hid _ := hyes
      clear hyes hok hcell
      go_wp2_with fail
      go_ret
      exact ⟨by rw [HNO.out]; rfl, bl⟩

def tv (m a s p : Int) : Value := .agg #[.int .i64 m, .int .i64 a, .int .i64 s, .int .i64 p]
def RightT (m a s p : Int) : Prop := 0 ≤ m ∧ 1 ≤ a ∧ a ≤ 6 ∧ 1 ≤ s ∧ s ≤ 604800 ∧ (a = 6 → 1 ≤ p ∧ p ≤ 100000000) ∧ (a ≠ 6 → p = 0)
def rightB (m a s p : Int) : Bool := decide (0 ≤ m ∧ 1 ≤ a ∧ a ≤ 6 ∧ 1 ≤ s ∧ s ≤ 604800 ∧ (a = 6 → 1 ≤ p ∧ p ≤ 100000000) ∧ (a ≠ 6 → p = 0))
theorem rightB_yes {m a s p : Int} (h : RightT m a s p) : rightB m a s p = true := decide_eq_true h
theorem rightB_no {m a s p : Int} (h : ¬ RightT m a s p) : rightB m a s p = false := decide_eq_false h
set_option maxRecDepth 20000 in
set_option maxHeartbeats 1000000 in
theorem wRight (m a s p : Int) (w : World) :
    Calls Tryd.prog 47 #[tv m a s p] w fun e w' => e = .returned (.bool (rightB m a s p)) ∧ Below w.heap.size w w' := by
  obtain ⟨hR, hB⟩ := one_box w 71 [.int .i64 m, .int .i64 a, .int .i64 s, .int .i64 p]
  have HB := hid hB
  clear hB hR
  generalize hx : rightB m a s p = x
  have HX := hid hx
  clear hx
  simp only [tv]
  by_cases h1 : m < 0 ∨ s < 1 ∨ 604800 < s
  · have e1 : x = false := by rw [← HX.out]; exact rightB_no (fun ⟨r1, r2, r3, r4, r5, r6, r7⟩ => by omega)
    subst e1
    rcases h1 with h1 | h1 | h1
    · go_enter Tryd.func47, Tryd.ntmps47
      go_wp2_with fail
      go_ret
      exact ⟨rfl, HB.out⟩
    · by_cases h2 : m < 0
      all_goals (
        go_enter Tryd.func47, Tryd.ntmps47
        go_wp2_with fail
        go_ret
        exact ⟨rfl, HB.out⟩)
    · have h3 : ¬ s < 1 := by omega
      by_cases h2 : m < 0
      all_goals (
        go_enter Tryd.func47, Tryd.ntmps47
        go_wp2_with fail
        go_ret
        exact ⟨rfl, HB.out⟩)
  · have k1 : ¬ m < 0 := by omega
    have k2 : ¬ s < 1 := by omega
    have k3 : ¬ 604800 < s := by omega
    clear h1
    by_cases h4 : a = 6
    · subst h4
      by_cases h5 : 1 ≤ p
      · by_cases h6 : p ≤ 100000000
        · have e1 : x = true := by rw [← HX.out]; exact rightB_yes ⟨by omega, by omega, by omega, by omega, by omega, fun _ => by omega, fun _ => by omega⟩
          subst e1
          go_enter Tryd.func47, Tryd.ntmps47
          go_wp2_with fail
          go_ret
          exact ⟨rfl, HB.out⟩
        · have e1 : x = false := by rw [← HX.out]; exact rightB_no (fun ⟨r1, r2, r3, r4, r5, r6, r7⟩ => by omega)
          subst e1
          go_enter Tryd.func47, Tryd.ntmps47
          go_wp2_with fail
          go_ret
          exact ⟨rfl, HB.out⟩
      · have e1 : x = false := by rw [← HX.out]; exact rightB_no (fun ⟨r1, r2, r3, r4, r5, r6, r7⟩ => by omega)
        subst e1
        go_enter Tryd.func47, Tryd.ntmps47
        go_wp2_with fail
        go_ret
        exact ⟨rfl, HB.out⟩
    · have h4' : (a == 6) = false := by simpa using h4
      by_cases h5 : 1 ≤ a
      · by_cases h6 : a < 6
        · by_cases h7 : p = 0
          · have e1 : x = true := by rw [← HX.out]; exact rightB_yes ⟨by omega, by omega, by omega, by omega, by omega, fun _ => by omega, fun _ => by omega⟩
            subst e1
            subst h7
            go_enter Tryd.func47, Tryd.ntmps47
            go_wp2_with fail
            go_ret
            exact ⟨rfl, HB.out⟩
          · have e1 : x = false := by rw [← HX.out]; exact rightB_no (fun ⟨r1, r2, r3, r4, r5, r6, r7⟩ => by omega)
            subst e1
            have h7' : (p == 0) = false := by simpa using h7
            clear h7
            go_enter Tryd.func47, Tryd.ntmps47
            go_wp2_with fail
            go_ret
            exact ⟨rfl, HB.out⟩
        · have e1 : x = false := by rw [← HX.out]; exact rightB_no (fun ⟨r1, r2, r3, r4, r5, r6, r7⟩ => by omega)
          subst e1
          go_enter Tryd.func47, Tryd.ntmps47
          go_wp2_with fail
          go_ret
          exact ⟨rfl, HB.out⟩
      · have e1 : x = false := by rw [← HX.out]; exact rightB_no (fun ⟨r1, r2, r3, r4, r5, r6, r7⟩ => by omega)
        subst e1
        go_enter Tryd.func47, Tryd.ntmps47
        go_wp2_with fail
        go_ret
        exact ⟨rfl, HB.out⟩
set_option maxRecDepth 20000 in
set_option maxHeartbeats 1000000 in
theorem fRight (m a s p : Int) (w : World) :
    Calls Tryd.prog 17 #[tv m a s p] w fun e w' => e = .returned (.bool (rightB m a s p)) ∧ Below w.heap.size w w' := by
  obtain ⟨hR, hB⟩ := one_box w 71 [.int .i64 m, .int .i64 a, .int .i64 s, .int .i64 p]
  have HB := hid hB
  clear hB hR
  generalize hx : rightB m a s p = x
  have HX := hid hx
  clear hx
  simp only [tv]
  by_cases h1 : m < 0 ∨ a < 1 ∨ 6 < a ∨ s < 1 ∨ 604800 < s
  · have e1 : x = false := by rw [← HX.out]; exact rightB_no (fun ⟨r1, r2, r3, r4, r5, r6, r7⟩ => by omega)
    subst e1
    by_cases k1 : m < 0
    · clear h1
      go_enter Tryd.func17, Tryd.ntmps17
      go_wp2_with fail
      go_ret
      exact ⟨rfl, HB.out⟩
    · by_cases k2 : a < 1
      · clear h1
        go_enter Tryd.func17, Tryd.ntmps17
        go_wp2_with fail
        go_ret
        exact ⟨rfl, HB.out⟩
      · by_cases k3 : 6 < a
        · clear h1
          go_enter Tryd.func17, Tryd.ntmps17
          go_wp2_with fail
          go_ret
          exact ⟨rfl, HB.out⟩
        · by_cases k4 : s < 1
          · clear h1
            go_enter Tryd.func17, Tryd.ntmps17
            go_wp2_with fail
            go_ret
            exact ⟨rfl, HB.out⟩
          · have k5 : 604800 < s := by omega
            clear h1
            go_enter Tryd.func17, Tryd.ntmps17
            go_wp2_with fail
            go_ret
            exact ⟨rfl, HB.out⟩
  · have k1 : ¬ m < 0 := by omega
    have k2 : ¬ a < 1 := by omega
    have k3 : ¬ 6 < a := by omega
    have k4 : ¬ s < 1 := by omega
    have k5 : ¬ 604800 < s := by omega
    clear h1
    by_cases h4 : a = 6
    · subst h4
      by_cases h5 : 1 ≤ p
      · by_cases h6 : p ≤ 100000000
        · have e1 : x = true := by rw [← HX.out]; exact rightB_yes ⟨by omega, by omega, by omega, by omega, by omega, fun _ => by omega, fun _ => by omega⟩
          subst e1
          go_enter Tryd.func17, Tryd.ntmps17
          go_wp2_with fail
          go_ret
          exact ⟨rfl, HB.out⟩
        · have e1 : x = false := by rw [← HX.out]; exact rightB_no (fun ⟨r1, r2, r3, r4, r5, r6, r7⟩ => by omega)
          subst e1
          go_enter Tryd.func17, Tryd.ntmps17
          go_wp2_with fail
          go_ret
          exact ⟨rfl, HB.out⟩
      · have e1 : x = false := by rw [← HX.out]; exact rightB_no (fun ⟨r1, r2, r3, r4, r5, r6, r7⟩ => by omega)
        subst e1
        go_enter Tryd.func17, Tryd.ntmps17
        go_wp2_with fail
        go_ret
        exact ⟨rfl, HB.out⟩
    · have h4' : (a == 6) = false := by simpa using h4
      by_cases h7 : p = 0
      · have e1 : x = true := by rw [← HX.out]; exact rightB_yes ⟨by omega, by omega, by omega, by omega, by omega, fun _ => by omega, fun _ => by omega⟩
        subst e1
        subst h7
        go_enter Tryd.func17, Tryd.ntmps17
        go_wp2_with fail
        go_ret
        exact ⟨rfl, HB.out⟩
      · have e1 : x = false := by rw [← HX.out]; exact rightB_no (fun ⟨r1, r2, r3, r4, r5, r6, r7⟩ => by omega)
        subst e1
        have h7' : (p == 0) = false := by simpa using h7
        clear h7
        go_enter Tryd.func17, Tryd.ntmps17
        go_wp2_with fail
        go_ret
        exact ⟨rfl, HB.out⟩
end Go.Proofs.YtigldebdljfnbaaDoor

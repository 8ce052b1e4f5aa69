/- Schedules, as plain numbers: sets of numbers as bits, and what a text reads as. No program is looked at here. -/
import Derived.Test.YtddinknnaakmmabDoorCivM
namespace Go.Proofs.YtddinknnaakmmabDoor

/-- The bits of the numbers below n for which p holds. -/
def setOf (p : Nat → Bool) : Nat → Nat
  | 0 => 0
  | n + 1 => setOf p n + if p n then 2 ^ n else 0
theorem setOf_lt (p : Nat → Bool) : ∀ n, setOf p n < 2 ^ n
  | 0 => by simp [setOf]
  | n + 1 => by
    have h := setOf_lt p n
    unfold setOf
    rw [Nat.pow_succ]
    split <;> omega
theorem setOf_bit (p : Nat → Bool) (i : Nat) : ∀ n, (setOf p n).testBit i = (decide (i < n) && p i)
  | 0 => by simp [setOf]
  | n + 1 => by
    have ih := setOf_bit p i n
    unfold setOf
    by_cases hp : p n = true
    · rw [if_pos hp, Nat.add_comm]
      rcases Nat.lt_trichotomy i n with h | h | h
      · rw [Nat.testBit_two_pow_add_gt h, ih]
        simp [h, Nat.lt_succ_of_lt h]
      · subst h
        rw [Nat.testBit_two_pow_add_eq, ih]
        simp [hp]
      · have hl := setOf_lt p (n + 1)
        unfold setOf at hl
        rw [if_pos hp, Nat.add_comm] at hl
        rw [Nat.testBit_lt_two_pow (Nat.lt_of_lt_of_le hl (Nat.pow_le_pow_right (by decide) h))]
        simp; omega
    · rw [if_neg hp, Nat.add_zero, ih]
      by_cases h : i = n
      · subst h; simp [Bool.eq_false_iff.2 hp]
      · have e : decide (i < n + 1) = decide (i < n) := by rw [decide_eq_decide]; omega
        rw [e]
/-- What lies from a on below m, in steps of n. -/
def evUp (a n m : Nat) : Nat := setOf (fun k => decide (a ≤ k ∧ k < m ∧ (k - a) % n = 0)) 64
/-- The numbers a, a + n, .. up to b. -/
def evS (a b n : Nat) : Nat := evUp a n (b + 1)
theorem evUp_bit (a n m i : Nat) : (evUp a n m).testBit i = decide (i < 64 ∧ a ≤ i ∧ i < m ∧ (i - a) % n = 0) := by
  unfold evUp
  rw [setOf_bit]
  simp [Bool.decide_and]
theorem evUp_lt (a n m : Nat) : evUp a n m < 18446744073709551616 := setOf_lt _ 64
theorem evUp_first (a n : Nat) : evUp a n a = 0 := by
  apply Nat.eq_of_testBit_eq
  intro i
  rw [evUp_bit, Nat.zero_testBit, decide_eq_false_iff_not]
  omega
theorem mod_move {a n m i : Nat} (h0 : a ≤ m) (hm : (m - a) % n = 0) (hi : m ≤ i) (hj : i < m + n) : (i - a) % n = 0 ↔ i = m := by
  have e : i - a = (m - a) + (i - m) := by omega
  rw [e, Nat.add_mod, hm, Nat.zero_add, Nat.mod_mod, Nat.mod_eq_of_lt (by omega)]
  omega
theorem evUp_bit_next (a n m i : Nat) (h0 : a ≤ m) (hm : (m - a) % n = 0) (hn : 1 ≤ n) (hlt : m < 64) : (evUp a n (m + n)).testBit i = ((evUp a n m).testBit i || decide (m = i)) := by
  rw [evUp_bit, evUp_bit, ← Bool.decide_or, decide_eq_decide]
  constructor
  · rintro ⟨h1, h2, h3, h4⟩
    by_cases hk : i < m
    · exact .inl ⟨h1, h2, hk, h4⟩
    · exact .inr ((mod_move h0 hm (by omega) h3).1 h4).symm
  · rintro (⟨h1, h2, h3, h4⟩ | h)
    · exact ⟨h1, h2, by omega, h4⟩
    · subst h; exact ⟨hlt, h0, by omega, hm⟩
theorem evUp_next (a n m : Nat) (h0 : a ≤ m) (hm : (m - a) % n = 0) (hn : 1 ≤ n) (hlt : m < 64) : evUp a n m ||| 2 ^ m = evUp a n (m + n) := by
  apply Nat.eq_of_testBit_eq
  intro i
  rw [Nat.testBit_or, Nat.testBit_two_pow, evUp_bit_next a n m i h0 hm hn hlt]
theorem evUp_end (a b n m : Nat) (h0 : a ≤ m) (hm : (m - a) % n = 0) (h1 : b < m) (h2 : m ≤ b + n) (hab : a ≤ b) : evUp a n m = evS a b n := by
  apply Nat.eq_of_testBit_eq
  intro i
  unfold evS
  rw [evUp_bit, evUp_bit, decide_eq_decide]
  constructor
  · rintro ⟨k1, k2, k3, k4⟩
    refine ⟨k1, k2, ?_, k4⟩
    by_cases hk : i < b + 1
    · exact hk
    · exfalso
      -- i lies in [m - n, m) above b, so i = m - n, which isn't above b
      have hn : a + n ≤ m := by
        have : n ≤ m - a := by
          rcases Nat.eq_zero_or_pos (m - a) with h | h
          · omega
          · exact Nat.le_of_dvd h (Nat.dvd_of_mod_eq_zero hm)
        omega
      have hm' : (m - n - a) % n = 0 := by
        have e : m - a = (m - n - a) + n := by omega
        rw [e, Nat.add_mod_right] at hm
        exact hm
      have := (mod_move (a := a) (n := n) (m := m - n) (i := i) (by omega) hm' (by omega) (by omega)).1 k4
      omega
  · rintro ⟨k1, k2, k3, k4⟩
    exact ⟨k1, k2, by omega, k4⟩

/-- The byte n of a text, as a number. -/
def bt (l : List UInt8) (n : Nat) : Int := ((l.getD n 0).toNat : Int)
theorem bt_get (s : ByteArray) (n : Nat) (h : n < s.size) : ((s[n]'h).toNat : Int) = bt s.data.toList n := by
  obtain ⟨⟨l⟩⟩ := s
  have hl : n < l.length := h
  have e : (ByteArray.mk ⟨l⟩)[n]'h = l.getD n 0 := by
    simp only [List.getD, List.getElem?_eq_getElem hl, Option.getD_some]
    rfl
  rw [e]; rfl
theorem bt_range (l : List UInt8) (n : Nat) : 0 ≤ bt l n ∧ bt l n ≤ 255 := by
  unfold bt
  have := (l.getD n 0).toNat_lt
  omega
def digitB (b : Int) : Bool := decide (48 ≤ b) && decide (b ≤ 57)
theorem digitB_iff (b : Int) : digitB b = true ↔ 48 ≤ b ∧ b ≤ 57 := by unfold digitB; simp
/-- The end of the longest run of digits that begins at n. -/
def runEnd (l : List UInt8) (n : Nat) : Nat := n + ((l.drop n).takeWhile (fun b => digitB b.toNat)).length
theorem bt_at (l : List UInt8) (n : Nat) (h : n < l.length) : bt l n = ↑(l[n]).toNat := by unfold bt; rw [List.getD_eq_getElem?_getD, List.getElem?_eq_getElem h]; rfl
theorem runEnd_go (l : List UInt8) (n : Nat) (h : n < l.length) (hp : digitB (bt l n) = true) : runEnd l n = runEnd l (n + 1) := by
  unfold runEnd
  rw [List.drop_eq_getElem_cons h, List.takeWhile_cons, if_pos (by rw [← bt_at l n h]; exact hp), List.length_cons]; omega
theorem runEnd_no (l : List UInt8) (n : Nat) (h : n < l.length) (hp : digitB (bt l n) = false) : runEnd l n = n := by
  unfold runEnd
  rw [List.drop_eq_getElem_cons h, List.takeWhile_cons, if_neg (by rw [← bt_at l n h, hp]; decide)]; rfl
theorem runEnd_end (l : List UInt8) (n : Nat) (h : l.length ≤ n) : runEnd l n = n := by
  unfold runEnd
  rw [List.drop_of_length_le h]; rfl
theorem runEnd_le (l : List UInt8) (n : Nat) (h : n ≤ l.length) : n ≤ runEnd l n ∧ runEnd l n ≤ l.length := by
  unfold runEnd
  have := (List.takeWhile_sublist (fun b : UInt8 => digitB b.toNat) (l := l.drop n)).length_le
  rw [List.length_drop] at this
  omega
theorem runEnd_digit (l : List UInt8) (n : Nat) : ∀ k, n ≤ k → k < runEnd l n → digitB (bt l k) = true := by
  intro k h1 h2
  by_cases hl : l.length ≤ n
  · rw [runEnd_end l n hl] at h2; omega
  have hr := runEnd_le l n (by omega)
  have h3 := h2
  unfold runEnd at h2
  have hk : k - n < ((l.drop n).takeWhile (fun b => digitB b.toNat)).length := by omega
  have hm := List.getElem_mem hk
  have hp := List.all_eq_true.1 (List.all_takeWhile (p := fun b : UInt8 => digitB b.toNat) (l := l.drop n)) _ hm
  have hpre := List.takeWhile_prefix (fun b : UInt8 => digitB b.toNat) (l := l.drop n)
  have he := hpre.getElem hk
  rw [he, List.getElem_drop] at hp
  rw [bt_at l k (by omega)]
  have e : n + (k - n) = k := by omega
  simpa only [e] using hp

/-- The byte b stands at n. -/
def isB (l : List UInt8) (n : Nat) (b : Int) : Bool := decide (n < l.length) && decide (bt l n = b)
theorem isB_iff (l : List UInt8) (n : Nat) (b : Int) : isB l n b = true ↔ n < l.length ∧ bt l n = b := by unfold isB; simp
theorem isB_no (l : List UInt8) (n : Nat) (b : Int) : isB l n b = false ↔ ¬ (n < l.length ∧ bt l n = b) := by
  rw [← isB_iff, Bool.not_eq_true]
/-- What the run of digits at n counts. -/
def valS (l : List UInt8) (n : Nat) : Option Nat :=
  if runEnd l n = n + 1 then some (bt l n - 48).toNat
  else if runEnd l n = n + 2 ∧ bt l n ≠ 48 then some ((bt l n - 48) * 10 + (bt l (n + 1) - 48)).toNat
  else none
/-- The number at n, from lo to hi, and where it ends. -/
def numS (l : List UInt8) (n lo hi : Nat) : Option (Nat × Nat) :=
  match valS l n with
  | none => none
  | some v => if lo ≤ v ∧ v ≤ hi then some (v, runEnd l n) else none
theorem numS_some {l : List UInt8} {n lo hi v e : Nat} (h : numS l n lo hi = some (v, e)) : lo ≤ v ∧ v ≤ hi ∧ v ≤ 99 ∧ e = runEnd l n ∧ n < e ∧ e ≤ n + 2 ∧ e ≤ l.length := by
  unfold numS at h
  split at h
  · cases h
  · rename_i u hu
    split at h
    · rename_i hk
      cases h
      unfold valS at hu
      have q : ∀ k, runEnd l n = n + 1 + k → n < l.length := fun k hk => by
        rcases Nat.lt_or_ge n l.length with h | h
        · exact h
        · rw [runEnd_end l n h] at hk; omega
      split at hu
      · rename_i h1
        cases hu
        have hl := q 0 h1
        have := runEnd_le l n (by omega)
        have d0 := (digitB_iff _).1 (runEnd_digit l n n (Nat.le_refl _) (by omega))
        refine ⟨hk.1, hk.2, by omega, rfl, by omega, by omega, by omega⟩
      · split at hu
        · rename_i h2
          cases hu
          have hl := q 1 h2.1
          have := runEnd_le l n (by omega)
          have d0 := (digitB_iff _).1 (runEnd_digit l n n (Nat.le_refl _) (by omega))
          have d1 := (digitB_iff _).1 (runEnd_digit l n (n + 1) (by omega) (by omega))
          refine ⟨hk.1, hk.2, by omega, rfl, by omega, by omega, by omega⟩
        · cases hu
    · cases h
/-- What may stand behind a range: the range's numbers, and where it ends; or where it is wrong. -/
def stepsS (l : List UInt8) (n a b : Nat) : Except Nat (Nat × Nat) :=
  if isB l n 47 = true then
    match numS l (n + 1) 1 99 with
    | none => .error (n + 1)
    | some (k, e) => .ok (evS a b k, e)
  else .ok (evS a b 1, n)
/-- An item. -/
def itemS (l : List UInt8) (n lo hi : Nat) : Except Nat (Nat × Nat) :=
  if isB l n 42 = true then stepsS l (n + 1) lo hi
  else match numS l n lo hi with
    | none => .error n
    | some (a, e) =>
      if isB l e 45 = true then
        match numS l (e + 1) a hi with
        | none => .error (e + 1)
        | some (b, f) => stepsS l f a b
      else .ok (2 ^ a, e)
/-- A field, with what was read of it: k is more than there are bytes left. -/
def fieldS (l : List UInt8) (lo hi : Nat) : Nat → Nat → Nat → Except Nat (Nat × Nat)
  | 0, n, _ => .error n
  | k + 1, n, acc =>
    match itemS l n lo hi with
    | .error p => .error p
    | .ok (s, e) => if isB l e 44 = true then fieldS l lo hi k (e + 1) (acc ||| s) else .ok (acc ||| s, e)
def lowN : Nat → Nat
  | 0 => 0 | 1 => 0 | 2 => 1 | 3 => 1 | _ => 0
def highN : Nat → Nat
  | 0 => 59 | 1 => 23 | 2 => 31 | 3 => 12 | _ => 6
/-- The first i fields. -/
def upto (l : List UInt8) : Nat → Except Nat (List Nat × Nat)
  | 0 => .ok ([], 0)
  | i + 1 =>
    match upto l i with
    | .error p => .error p
    | .ok (ss, n) =>
      if i ≠ 0 ∧ isB l n 32 = false then .error n
      else match fieldS l (lowN i) (highN i) (l.length + 1) (if i = 0 then n else n + 1) 0 with
        | .error p => .error p
        | .ok (s, e) => .ok (ss ++ [s], e)
/-- A schedule's text. -/
def readS (l : List UInt8) : Except Nat (List Nat) :=
  match upto l 5 with
  | .error p => .error p
  | .ok (ss, n) => if n < l.length then .error n else .ok ss

theorem highN_lt (i : Nat) : highN i < 64 := by
  unfold highN; split <;> decide
theorem low_high (i : Nat) : lowN i ≤ highN i := by
  unfold lowN highN; split <;> simp
theorem stepsS_ok {l : List UInt8} {n a b s e : Nat} (hn : n ≤ l.length) (h : stepsS l n a b = .ok (s, e)) : n ≤ e ∧ e ≤ l.length ∧ ∃ k, 1 ≤ k ∧ k ≤ 99 ∧ s = evS a b k := by
  unfold stepsS at h
  split at h
  · split at h
    · cases h
    · rename_i k f hk
      cases h
      have := numS_some hk
      exact ⟨by omega, by omega, k, by omega, by omega, rfl⟩
  · cases h
    exact ⟨Nat.le_refl _, hn, 1, by omega, by omega, rfl⟩
theorem stepsS_error {l : List UInt8} {n a b p : Nat} (h : stepsS l n a b = .error p) : n ≤ p ∧ p ≤ l.length := by
  unfold stepsS at h
  split at h
  · rename_i hi
    have := (isB_iff _ _ _).1 hi
    split at h
    · cases h; omega
    · cases h
  · cases h
theorem pow_lt64 {a : Nat} (h : a < 64) : 2 ^ a < 18446744073709551616 := Nat.pow_lt_pow_right (by decide) h
theorem itemS_ok {l : List UInt8} {n lo hi s e : Nat} (_ : n ≤ l.length) (hh : hi < 64) (h : itemS l n lo hi = .ok (s, e)) : n < e ∧ e ≤ l.length ∧ s < 18446744073709551616 := by
  unfold itemS at h
  split at h
  · rename_i hi
    have := (isB_iff _ _ _).1 hi
    obtain ⟨h1, h2, k, _, _, rfl⟩ := stepsS_ok (by omega) h
    exact ⟨by omega, h2, evUp_lt _ _ _⟩
  · split at h
    · cases h
    · rename_i a f ha
      have := numS_some ha
      split at h
      · rename_i hi
        have := (isB_iff _ _ _).1 hi
        split at h
        · cases h
        · rename_i b g hb
          have := numS_some hb
          obtain ⟨h1, h2, k, _, _, rfl⟩ := stepsS_ok (by omega) h
          exact ⟨by omega, h2, evUp_lt _ _ _⟩
      · cases h
        exact ⟨by omega, by omega, pow_lt64 (by omega)⟩
theorem itemS_error {l : List UInt8} {n lo hi p : Nat} (hn : n ≤ l.length) (h : itemS l n lo hi = .error p) : n ≤ p ∧ p ≤ l.length := by
  unfold itemS at h
  split at h
  · rename_i hi
    have := (isB_iff _ _ _).1 hi
    have := stepsS_error h
    omega
  · split at h
    · cases h; omega
    · rename_i a f ha
      have := numS_some ha
      split at h
      · rename_i hi
        have := (isB_iff _ _ _).1 hi
        split at h
        · cases h; omega
        · rename_i b g hb
          have := numS_some hb
          have := stepsS_error h
          omega
      · cases h
theorem or_lt64 {a b : Nat} (ha : a < 18446744073709551616) (hb : b < 18446744073709551616) : a ||| b < 18446744073709551616 := Nat.or_lt_two_pow (n := 64) ha hb
theorem fieldS_ok {l : List UInt8} {lo hi : Nat} (hh : hi < 64) : ∀ (k n acc : Nat) {s e : Nat}, n ≤ l.length → acc < 18446744073709551616 → fieldS l lo hi k n acc = .ok (s, e) → n < e ∧ e ≤ l.length ∧ s < 18446744073709551616
  | 0, n, acc, s, e, _, _, h => by cases h
  | k + 1, n, acc, s, e, hn, ha, h => by
    unfold fieldS at h
    split at h
    · cases h
    · rename_i s1 e1 h1
      have q := itemS_ok hn hh h1
      split at h
      · rename_i hc
        have hc := (isB_iff _ _ _).1 hc
        have := fieldS_ok hh k _ _ (by omega) (or_lt64 ha q.2.2) h
        exact ⟨by omega, this.2⟩
      · cases h
        exact ⟨q.1, q.2.1, or_lt64 ha q.2.2⟩
theorem fieldS_error {l : List UInt8} {lo hi : Nat} (hh : hi < 64) : ∀ (k n acc : Nat) {p : Nat}, n ≤ l.length → fieldS l lo hi k n acc = .error p → n ≤ p ∧ p ≤ l.length
  | 0, n, acc, p, hn, h => by cases h; omega
  | k + 1, n, acc, p, hn, h => by
    unfold fieldS at h
    split at h
    · rename_i h1
      cases h
      exact itemS_error hn h1
    · rename_i s1 e1 h1
      have q := itemS_ok hn hh h1
      split at h
      · rename_i hc
        have hc := (isB_iff _ _ _).1 hc
        have := fieldS_error hh k _ _ (by omega) h
        omega
      · cases h
theorem upto_ok {l : List UInt8} : ∀ (i : Nat) {ss : List Nat} {n : Nat}, upto l i = .ok (ss, n) → n ≤ l.length ∧ ss.length = i ∧ ∀ s ∈ ss, s < 18446744073709551616
  | 0, ss, n, h => by cases h; simp
  | i + 1, ss, n, h => by
    unfold upto at h
    split at h
    · cases h
    · rename_i ss1 n1 h1
      obtain ⟨q1, q2, q3⟩ := upto_ok i h1
      split at h
      · cases h
      · rename_i hc
        split at h
        · cases h
        · rename_i s e hf
          cases h
          have hn : (if i = 0 then n1 else n1 + 1) ≤ l.length := by
            split
            · exact q1
            · rename_i h0
              have := (isB_iff l n1 32).1 (by cases hb : isB l n1 32 with | true => rfl | false => exact absurd ⟨h0, hb⟩ hc)
              omega
          have := fieldS_ok (highN_lt i) _ _ _ hn (by decide) hf
          refine ⟨this.2.1, by simp [q2], fun s hs => ?_⟩
          rcases List.mem_append.1 hs with h | h
          · exact q3 s h
          · simp at h; subst h; exact this.2.2
theorem upto_error {l : List UInt8} : ∀ (i : Nat) {p : Nat}, upto l i = .error p → p ≤ l.length
  | 0, p, h => by cases h
  | i + 1, p, h => by
    unfold upto at h
    split at h
    · rename_i h1
      cases h
      exact upto_error i h1
    · rename_i ss1 n1 h1
      obtain ⟨q1, q2, q3⟩ := upto_ok i h1
      split at h
      · cases h; exact q1
      · rename_i hc
        split at h
        · rename_i hf
          cases h
          have hn : (if i = 0 then n1 else n1 + 1) ≤ l.length := by
            split
            · exact q1
            · rename_i h0
              have := (isB_iff l n1 32).1 (by cases hb : isB l n1 32 with | true => rfl | false => exact absurd ⟨h0, hb⟩ hc)
              omega
          exact (fieldS_error (highN_lt i) _ _ _ hn hf).2
        · cases h
theorem upto_stays {l : List UInt8} {i j p : Nat} (h : upto l i = .error p) (hj : i ≤ j) : upto l j = .error p := by
  induction j with
  | zero => obtain rfl : i = 0 := by omega
            exact h
  | succ j ih =>
    rcases Nat.lt_or_ge j i with k | k
    · obtain rfl : i = j + 1 := by omega
      exact h
    · have := ih k
      unfold upto
      rw [this]
theorem readS_stays {l : List UInt8} {i p : Nat} (h : upto l i = .error p) (hj : i ≤ 5) : readS l = .error p := by
  unfold readS
  rw [upto_stays h hj]
/-- A schedule: its five sets. -/
structure Cr where
  a : Nat
  b : Nat
  c : Nat
  d : Nat
  e : Nat
end Go.Proofs.YtddinknnaakmmabDoor

/- Schedules' texts, as plain lists of bytes: runs of numbers. No program is looked at here. -/
import Derived.Test.YtddinknnaakmmabDoorCroM
import Derived.Lib.Join
import Derived.Lib.ItoaNum
namespace Go.Proofs.YtddinknnaakmmabDoor

/-- A number of one or two digits. -/
def dec (n : Nat) : List UInt8 := if n < 10 then [UInt8.ofNat (48 + n)] else [UInt8.ofNat (48 + n / 10), UInt8.ofNat (48 + n % 10)]
theorem dec_digits (n : Nat) (h : n < 100) : Lib.decDigits n = dec n := by
  unfold dec
  rw [Lib.decDigits]
  split
  · rfl
  · rw [Lib.decDigits, dif_pos (by omega)]; rfl
theorem dec_len (n : Nat) : 1 ≤ (dec n).length ∧ (dec n).length ≤ 2 := by
  unfold dec; split <;> simp
/-- The last number of the run that n is in: at most f further. -/
def endF (S : Nat) : Nat → Nat → Nat
  | 0, n => n
  | f + 1, n => if S.testBit (n + 1) = true then endF S f (n + 1) else n
def endOf (S n : Nat) : Nat := endF S 64 n
theorem bit_lt {S i : Nat} (hS : S < 18446744073709551616) (h : S.testBit i = true) : i < 64 := by
  rcases Nat.lt_or_ge i 64 with k | k
  · exact k
  · rw [Nat.testBit_lt_two_pow (Nat.lt_of_lt_of_le (show S < 2 ^ 64 from hS) (Nat.pow_le_pow_right (by decide) k))] at h
    cases h
theorem endF_spec (S : Nat) (hS : S < 18446744073709551616) : ∀ f n, 64 ≤ f + n → n ≤ endF S f n ∧ (n < 64 → endF S f n < 64) ∧ (∀ i, n < i → i ≤ endF S f n → S.testBit i = true) ∧ S.testBit (endF S f n + 1) = false
  | 0, n, h => ⟨Nat.le_refl _, fun k => k, fun i h1 h2 => by unfold endF at h2; omega, by
      unfold endF
      cases hb : S.testBit (n + 1) with
      | false => rfl
      | true => have := bit_lt hS hb; omega⟩
  | f + 1, n, h => by
    unfold endF
    split
    · rename_i hb
      obtain ⟨h1, h2, h3, h4⟩ := endF_spec S hS f (n + 1) (by omega)
      have := bit_lt hS hb
      refine ⟨by omega, fun _ => h2 this, fun i k1 k2 => ?_, h4⟩
      by_cases hi : i = n + 1
      · rw [hi]; exact hb
      · exact h3 i (by omega) k2
    · rename_i hb
      exact ⟨Nat.le_refl _, fun k => k, fun i k1 k2 => by omega, Bool.eq_false_iff.2 hb⟩
structure Ends (S n k : Nat) : Prop where
  le : n ≤ k
  lt : k < 64
  all : ∀ i, n < i → i ≤ k → S.testBit i = true
  no : S.testBit (k + 1) = false
theorem endOf_ends {S n : Nat} (hS : S < 18446744073709551616) (hn : n < 64) : Ends S n (endOf S n) := by
  obtain ⟨h1, h2, h3, h4⟩ := endF_spec S hS 64 n (by omega)
  exact ⟨h1, h2 hn, h3, h4⟩
theorem Ends.unique {S n k : Nat} (hS : S < 18446744073709551616) (hn : n < 64) (h : Ends S n k) : k = endOf S n := by
  have e := endOf_ends hS hn
  rcases Nat.lt_trichotomy k (endOf S n) with c | c | c
  · have := e.all (k + 1) (by have := h.le; omega) (by omega)
    rw [h.no] at this; cases this
  · exact c
  · have := h.all (endOf S n + 1) (by have := e.le; omega) (by omega)
    rw [e.no] at this; cases this
/-- A run's text. -/
def runT (a b : Nat) : List UInt8 := if b = a then dec a else if b = a + 1 then dec a ++ 44 :: dec b else dec a ++ 45 :: dec b
theorem runT_len (a b : Nat) : 1 ≤ (runT a b).length ∧ (runT a b).length ≤ 5 := by
  have h1 := dec_len a
  have h2 := dec_len b
  unfold runT
  split
  · omega
  · split <;> simp <;> omega
/-- A run begins at n. -/
def startB (S n : Nat) : Bool := S.testBit n && !(decide (0 < n) && S.testBit (n - 1))
/-- The texts of the runs that begin below n. -/
def itemsUp (S : Nat) : Nat → List (List UInt8)
  | 0 => []
  | n + 1 => itemsUp S n ++ if startB S n = true then [runT n (endOf S n)] else []
theorem itemsUp_no {S n : Nat} (h : startB S n = false) : itemsUp S (n + 1) = itemsUp S n := by
  conv => lhs; unfold itemsUp
  rw [h]; simp
theorem itemsUp_yes {S n : Nat} (h : startB S n = true) : itemsUp S (n + 1) = itemsUp S n ++ [runT n (endOf S n)] := by
  conv => lhs; unfold itemsUp
  rw [h]; simp
theorem itemsUp_skip {S a : Nat} : ∀ b, a ≤ b → (∀ j, a ≤ j → j < b → startB S j = false) → itemsUp S b = itemsUp S a
  | 0, h, _ => by obtain rfl : a = 0 := by omega
                  rfl
  | b + 1, h, k => by
    rcases Nat.lt_or_ge b a with c | c
    · obtain rfl : a = b + 1 := by omega
      rfl
    · rw [itemsUp_no (k b c (by omega)), itemsUp_skip b c fun j h1 h2 => k j h1 (by omega)]
theorem itemsUp_len (S : Nat) : ∀ n, (itemsUp S n).length ≤ n ∧ ∀ x ∈ itemsUp S n, x.length ≤ 5
  | 0 => by simp [itemsUp]
  | n + 1 => by
    obtain ⟨h1, h2⟩ := itemsUp_len S n
    cases h : startB S n with
    | false => rw [itemsUp_no h]; exact ⟨by omega, h2⟩
    | true =>
      rw [itemsUp_yes h]
      refine ⟨by simp; omega, fun x hx => ?_⟩
      rcases List.mem_append.1 hx with c | c
      · exact h2 x c
      · simp at c; subst c; exact (runT_len _ _).2
/-- A field's text. -/
def fieldT (S lo hi : Nat) : List UInt8 := if S = evS lo hi 1 then [42] else Lib.join (itemsUp S 64) [44]
theorem join_cons2 (x y : List UInt8) (r : List (List UInt8)) (sep : List UInt8) : Lib.join (x :: y :: r) sep = x ++ (sep ++ Lib.join (y :: r) sep) := by
  simp [Lib.join, List.intercalate]
theorem join_snoc (x : List UInt8) (sep : List UInt8) : ∀ (xs : List (List UInt8)), xs ≠ [] → Lib.join (xs ++ [x]) sep = Lib.join xs sep ++ (sep ++ x)
  | [], h => absurd rfl h
  | [a], _ => by rw [List.singleton_append, join_cons2, Lib.join_one, Lib.join_one]
  | a :: b :: r, _ => by
    rw [List.cons_append, List.cons_append, join_cons2, join_cons2, ← List.cons_append, join_snoc x sep (b :: r) (by simp)]
    simp
theorem join_len (xs : List (List UInt8)) (sep : List UInt8) (m k : Nat) (h : ∀ x ∈ xs, x.length ≤ m) (hs : sep.length ≤ k) : (Lib.join xs sep).length ≤ xs.length * (m + k) := by
  match xs, h with
  | [], _ => simp [Lib.join, List.intercalate]
  | [a], h => rw [Lib.join_one]; have := h a (by simp); simp; omega
  | a :: b :: r, h =>
    rw [join_cons2]
    have := join_len (b :: r) sep m k (fun x hx => h x (by simp [hx])) hs
    have h2 := h a (by simp)
    rw [List.length_append, List.length_append]
    rw [List.length_cons (as := b :: r), Nat.succ_mul]
    omega
/-- The next number of the set from n on. -/
structure Nx (S n k : Nat) : Prop where
  le : n ≤ k
  lt : k < 64
  bit : S.testBit k = true
  no : ∀ i, n ≤ i → i < k → S.testBit i = false
/-- From one run to the next. -/
theorem items_first {S lo k : Nat} (hlo : ∀ i, S.testBit i = true → lo ≤ i) (h : Nx S lo k) : startB S k = true ∧ itemsUp S k = [] := by
  have hno : ∀ i, i < k → S.testBit i = false := fun i hi => by
    cases hb : S.testBit i with
    | false => rfl
    | true => rw [h.no i (hlo i hb) hi] at hb; cases hb
  refine ⟨?_, (itemsUp_skip k (Nat.zero_le _) fun j _ hj => ?_).trans rfl⟩
  · unfold startB
    rw [h.bit]
    by_cases h0 : 0 < k
    · rw [hno (k - 1) (by omega)]; simp
    · simp [h0]
  · unfold startB; rw [hno j hj]; rfl
theorem items_step {S a e k : Nat} (hb : startB S a = true) (he : Ends S a e) (hee : e = endOf S a) (h : Nx S (e + 1) k) : startB S k = true ∧ itemsUp S k = itemsUp S a ++ [runT a e] := by
  have hk : e + 1 < k := by
    rcases Nat.lt_or_ge (e + 1) k with c | c
    · exact c
    · have : k = e + 1 := by have := h.le; omega
      have hx := h.bit
      rw [this, he.no] at hx; cases hx
  have le := he.le
  have hab : S.testBit a = true := by unfold startB at hb; rw [Bool.and_eq_true] at hb; exact hb.1
  refine ⟨?_, ?_⟩
  · unfold startB
    rw [h.bit, h.no (k - 1) (by omega) (by omega)]; simp
  · rw [itemsUp_skip (a := a + 1) k (by omega) fun j h1 h2 => ?_, itemsUp_yes hb, hee]
    unfold startB
    by_cases hj : j ≤ e
    · have : S.testBit (j - 1) = true := by
        by_cases hj2 : j - 1 = a
        · rw [hj2]; exact hab
        · exact he.all (j - 1) (by omega) (by omega)
      rw [this]; simp; omega
    · rw [h.no j (by omega) h2]; rfl
theorem items_last {S a e : Nat} (hb : startB S a = true) (he : Ends S a e) (hee : e = endOf S a) (h : ∀ i, e + 1 ≤ i → S.testBit i = false) : itemsUp S 64 = itemsUp S a ++ [runT a e] := by
  have hab : S.testBit a = true := by unfold startB at hb; rw [Bool.and_eq_true] at hb; exact hb.1
  have le := he.le
  have lt := he.lt
  rw [itemsUp_skip (a := a + 1) 64 (by omega) fun j h1 h2 => ?_, itemsUp_yes hb, hee]
  unfold startB
  by_cases hj : j ≤ e
  · have : S.testBit (j - 1) = true := by
      by_cases hj2 : j - 1 = a
      · rw [hj2]; exact hab
      · exact he.all (j - 1) (by omega) (by omega)
    rw [this]; simp; omega
  · rw [h j (by omega)]; rfl
end Go.Proofs.YtddinknnaakmmabDoor

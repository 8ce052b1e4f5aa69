/- Schedules' texts: how long they are; what is read is formed. No program is looked at here. -/
import Derived.Test.YtddinknnaakmmabDoorCroP
namespace Go.Proofs.YtddinknnaakmmabDoor

/-- Three times what the numbers below m may cost. -/
def wt (m : Nat) : Nat := if m ≤ 10 then 4 * m else 6 * m - 20
theorem wt_mono {a b : Nat} (h : a ≤ b) : wt a ≤ wt b := by
  unfold wt
  split <;> split <;> omega
theorem dec_len2 (n : Nat) : (dec n).length = if n < 10 then 1 else 2 := by
  unfold dec; split <;> rfl
theorem runT_cost {a b : Nat} (h : a ≤ b) : 3 * ((runT a b).length + 1) + wt a ≤ wt (b + 2) := by
  have h1 := dec_len2 a
  have h2 := dec_len2 b
  unfold runT wt
  by_cases e : b = a
  · rw [if_pos e]; subst e
    split at h1 <;> split <;> split <;> omega
  · rw [if_neg e]
    by_cases e2 : b = a + 1
    · rw [if_pos e2]; subst e2
      rw [List.length_append, List.length_cons]
      split at h1 <;> split at h2 <;> split <;> split <;> omega
    · rw [if_neg e2]
      rw [List.length_append, List.length_cons]
      split at h1 <;> split at h2 <;> split <;> split <;> omega
def cst : List (List UInt8) → Nat
  | [] => 0
  | x :: xs => x.length + 1 + cst xs
theorem cst_append (ys : List (List UInt8)) : ∀ xs, cst (xs ++ ys) = cst xs + cst ys
  | [] => by simp [cst]
  | x :: xs => by rw [List.cons_append, cst, cst, cst_append ys xs]; omega
theorem join_cst : ∀ (xs : List (List UInt8)), xs ≠ [] → (Lib.join xs [44]).length + 1 = cst xs
  | [], h => absurd rfl h
  | [a], _ => by rw [Lib.join_one]; simp [cst]
  | a :: b :: r, _ => by
    have := join_cst (b :: r) (by simp)
    rw [join_cons2, cst, ← this]
    simp only [List.length_append, List.length_cons, List.length_nil]
    omega
theorem before_start {S a n : Nat} (hS : S < 18446744073709551616) (hn : startB S n = true) (ha : startB S a = true) (h : a < n) : endOf S a + 2 ≤ n := by
  have h64 := bit_lt hS (start_bit hn)
  have e := endOf_ends (n := a) hS (by omega)
  have hf : S.testBit (n - 1) = false := by
    unfold startB at hn
    rw [Bool.and_eq_true] at hn
    cases hb : S.testBit (n - 1) with
    | false => rfl
    | true => rw [hb] at hn; simp at hn; omega
  have hin : ∀ i, a ≤ i → i ≤ endOf S a → S.testBit i = true := fun i h1 h2 => by
    by_cases c : i = a
    · rw [c]; exact start_bit ha
    · exact e.all i (by omega) h2
  rcases Nat.lt_or_ge (endOf S a) (n - 1) with c | c
  · omega
  · rw [hin (n - 1) (by omega) c] at hf; cases hf
theorem items_cost {S lo hi : Nat} (hS : OkSet S lo hi) : ∀ n m, lo ≤ m → (∀ a, a < n → startB S a = true → endOf S a + 2 ≤ m) → 3 * cst (itemsUp S n) + wt lo ≤ wt m
  | 0, m, h, _ => by have := wt_mono h; simp [itemsUp, cst]; omega
  | n + 1, m, h, k => by
    cases hb : startB S n with
    | false => rw [itemsUp_no hb]; exact items_cost hS n m h fun a ha => k a (by omega)
    | true =>
      rw [itemsUp_yes hb, cst_append]
      have h1 := items_cost hS n n (hS.bits _ (start_bit hb)).1 fun a ha hs => before_start hS.lt hb hs ha
      have h2 := runT_cost (endOf_ends hS.lt (bit_lt hS.lt (start_bit hb))).le
      have h3 := wt_mono (k n (by omega) hb)
      simp only [cst]
      omega
theorem fieldT_len {S lo hi : Nat} (hS : OkSet S lo hi) (hl : lo < hi) : 3 * ((fieldT S lo hi).length + 1) + wt lo ≤ wt (hi + 2) := by
  unfold fieldT
  split
  · simp only [List.length_cons, List.length_nil]
    unfold wt
    split <;> split <;> omega
  · have hr := runs_in hS.lt hS.bits
    rw [join_cst _ (by rw [items_runs]; intro e; exact runs_some hS.lt hS.ne (List.map_eq_nil_iff.1 e))]
    refine items_cost hS 64 (hi + 2) (by omega) fun a ha hs => ?_
    have := (hr (a, endOf S a) ((mem_runs S _ 64).2 ⟨ha, hs, rfl⟩)).2.2
    simp only at this
    omega
theorem textL_len (g : Nat → Nat) (h : ∀ i, i < 5 → OkSet (g i) (lowN i) (highN i)) : (textL g).length ≤ 245 := by
  have f0 := fieldT_len (h 0 (by omega)) (by decide)
  have f1 := fieldT_len (h 1 (by omega)) (by decide)
  have f2 := fieldT_len (h 2 (by omega)) (by decide)
  have f3 := fieldT_len (h 3 (by omega)) (by decide)
  have f4 := fieldT_len (h 4 (by omega)) (by decide)
  simp only [lowN, highN, wt] at f0 f1 f2 f3 f4
  unfold textL
  simp only [List.length_append, List.length_cons]
  simp at f0 f1 f2 f3 f4
  omega

theorem evS_in {a b k lo hi : Nat} (h0 : lo ≤ a) (h1 : a ≤ b) (h2 : b ≤ hi) (hh : hi < 64) : OkSet (evS a b k) lo hi := by
  refine ⟨evUp_lt _ _ _, fun e => ?_, fun i hi => ?_⟩
  · have : (evS a b k).testBit a = true := by unfold evS; rw [evUp_bit, decide_eq_true_eq]; exact ⟨by omega, Nat.le_refl _, by omega, by simp⟩
    rw [e, Nat.zero_testBit] at this; cases this
  · unfold evS at hi
    rw [evUp_bit, decide_eq_true_eq] at hi
    omega
theorem pow_in {a lo hi : Nat} (h0 : lo ≤ a) (h2 : a ≤ hi) (hh : hi < 64) : OkSet (2 ^ a) lo hi := by
  rw [← evS_one (show a < 64 by omega)]
  exact evS_in h0 (Nat.le_refl _) h2 hh
theorem stepsS_in {l : List UInt8} {n a b lo hi s e : Nat} (h : stepsS l n a b = .ok (s, e)) (h0 : lo ≤ a) (h1 : a ≤ b) (h2 : b ≤ hi) (hh : hi < 64) : OkSet s lo hi := by
  unfold stepsS at h
  split at h
  · split at h
    · cases h
    · cases h; exact evS_in h0 h1 h2 hh
  · cases h; exact evS_in h0 h1 h2 hh
theorem itemS_in {l : List UInt8} {n lo hi s e : Nat} (h : itemS l n lo hi = .ok (s, e)) (hl : lo ≤ hi) (hh : hi < 64) : OkSet s lo hi := by
  unfold itemS at h
  split at h
  · exact stepsS_in h (Nat.le_refl _) hl (Nat.le_refl _) hh
  · split at h
    · cases h
    · rename_i a f ha
      have q := numS_some ha
      split at h
      · split at h
        · cases h
        · rename_i b g hb
          have q2 := numS_some hb
          exact stepsS_in h q.1 q2.1 q2.2.1 hh
      · cases h; exact pow_in q.1 q.2.1 hh
theorem or_in {a b lo hi : Nat} (h : a = 0 ∨ OkSet a lo hi) (k : OkSet b lo hi) : OkSet (a ||| b) lo hi := by
  rcases h with rfl | h
  · rw [Nat.zero_or]; exact k
  · refine ⟨or_lt64 h.lt k.lt, fun e => ?_, fun i hi => ?_⟩
    · exact k.ne (Nat.eq_of_testBit_eq fun i => by
        have := congrArg (fun x => x.testBit i) e
        simp only [Nat.testBit_or, Nat.zero_testBit, Bool.or_eq_false_iff] at this
        rw [this.2, Nat.zero_testBit])
    · rw [Nat.testBit_or, Bool.or_eq_true] at hi
      rcases hi with hi | hi
      · exact h.bits i hi
      · exact k.bits i hi
theorem fieldS_in {l : List UInt8} {lo hi : Nat} (hl : lo ≤ hi) (hh : hi < 64) : ∀ (k n acc : Nat) {s e : Nat}, (acc = 0 ∨ OkSet acc lo hi) → fieldS l lo hi k n acc = .ok (s, e) → OkSet s lo hi
  | 0, n, acc, s, e, _, h => by cases h
  | k + 1, n, acc, s, e, ha, h => by
    unfold fieldS at h
    split at h
    · cases h
    · rename_i s1 e1 h1
      have q := or_in ha (itemS_in h1 hl hh)
      split at h
      · exact fieldS_in hl hh k _ _ (.inr q) h
      · cases h; exact q
theorem upto_in {l : List UInt8} : ∀ (i : Nat) {ss : List Nat} {n : Nat}, upto l i = .ok (ss, n) → ss.length = i ∧ ∀ j, j < i → OkSet (ss.getD j 0) (lowN j) (highN j)
  | 0, ss, n, h => by cases h; exact ⟨rfl, fun j hj => absurd hj (by omega)⟩
  | i + 1, ss, n, h => by
    unfold upto at h
    split at h
    · cases h
    · rename_i ss1 n1 h1
      obtain ⟨q1, q2⟩ := upto_in i h1
      split at h
      · cases h
      · split at h
        · cases h
        · rename_i s e hf
          cases h
          have q := fieldS_in (low_high i) (highN_lt i) _ _ _ (.inl rfl) hf
          refine ⟨by simp [q1], fun j hj => ?_⟩
          rw [List.getD_eq_getElem?_getD]
          by_cases c : j < i
          · rw [List.getElem?_append_left (by omega), ← List.getD_eq_getElem?_getD]; exact q2 j c
          · obtain rfl : j = i := by omega
            rw [List.getElem?_append_right (by omega), q1, Nat.sub_self]
            exact q
theorem readS_in {l : List UInt8} {ss : List Nat} (h : readS l = .ok ss) : ss.length = 5 ∧ ∀ j, j < 5 → OkSet (ss.getD j 0) (lowN j) (highN j) := by
  unfold readS at h
  split at h
  · cases h
  · rename_i ss1 n hu
    split at h
    · cases h
    · cases h; exact upto_in 5 hu
theorem readS_error {l : List UInt8} {p : Nat} (h : readS l = .error p) : p ≤ l.length := by
  unfold readS at h
  split at h
  · rename_i hu; cases h; exact upto_error 5 hu
  · split at h
    · rename_i hn; cases h; omega
    · cases h
theorem textL_join (g : Nat → Nat) : Lib.join [fieldT (g 0) 0 59, fieldT (g 1) 0 23, fieldT (g 2) 1 31, fieldT (g 3) 1 12, fieldT (g 4) 0 6] [32] = textL g := by
  rw [join_cons2, join_cons2, join_cons2, join_cons2, Lib.join_one]
  rfl
end Go.Proofs.YtddinknnaakmmabDoor

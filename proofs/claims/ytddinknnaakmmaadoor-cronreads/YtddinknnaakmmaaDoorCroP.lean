/- What is told is read as what it was: schedules' texts, as plain lists of bytes. No program is looked at here. -/
import Derived.Test.YtddinknnaakmmaaDoorCroT
namespace Go.Proofs.YtddinknnaakmmaaDoor

/-- Behind n stands x, and then r. -/
structure Sits (l : List UInt8) (n : Nat) (x r : List UInt8) : Prop where
  le : n ≤ l.length
  eq : l.drop n = x ++ r
theorem Sits.len {l : List UInt8} {n : Nat} {x r : List UInt8} (h : Sits l n x r) : n + x.length + r.length = l.length := by
  have := congrArg List.length h.eq
  have hl := h.le
  rw [List.length_drop, List.length_append] at this
  omega
theorem Sits.next {l : List UInt8} {n : Nat} {x y r : List UInt8} (h : Sits l n (x ++ y) r) : Sits l (n + x.length) y r := by
  have := h.len
  rw [List.length_append] at this
  refine ⟨by omega, ?_⟩
  rw [← List.drop_drop, h.eq, List.append_assoc, List.drop_left]
theorem Sits.split {l : List UInt8} {n : Nat} {x y r : List UInt8} (h : Sits l n (x ++ y) r) : Sits l n x (y ++ r) := ⟨h.le, by rw [h.eq, List.append_assoc]⟩
theorem Sits.past {l : List UInt8} {n : Nat} {x : List UInt8} {r : List UInt8} (h : Sits l n x r) : Sits l (n + x.length) [] r := Sits.next (x := x) (y := []) (by rw [List.append_nil]; exact h)
theorem Sits.back {l : List UInt8} {n : Nat} {x y r : List UInt8} (h : Sits l n x (y ++ r)) : Sits l n (x ++ y) r := ⟨h.le, by rw [h.eq, List.append_assoc]⟩
theorem Sits.head {l : List UInt8} {n : Nat} {b : UInt8} {x r : List UInt8} (h : Sits l n (b :: x) r) : bt l n = (b.toNat : Int) ∧ n < l.length := by
  have h1 := h.len
  rw [List.length_cons] at h1
  refine ⟨?_, by omega⟩
  have : (l.drop n)[0]? = some b := by rw [h.eq]; rfl
  rw [List.getElem?_drop, Nat.add_zero] at this
  unfold bt
  rw [List.getD_eq_getElem?_getD, this]; rfl
theorem Sits.is {l : List UInt8} {n : Nat} {b : UInt8} {x r : List UInt8} (h : Sits l n (b :: x) r) (c : Int) : isB l n c = decide ((b.toNat : Int) = c) := by
  obtain ⟨h1, h2⟩ := h.head
  unfold isB
  rw [decide_eq_true h2, Bool.true_and, h1]
/-- What may stand behind an item. -/
def Stop (r : List UInt8) : Prop := r = [] ∨ (∃ q, r = 44 :: q) ∨ ∃ q, r = 32 :: q
theorem Stop.nil : Stop [] := Or.inl rfl
theorem Stop.comma (q : List UInt8) : Stop (44 :: q) := Or.inr (Or.inl ⟨q, rfl⟩)
theorem Stop.blank (q : List UInt8) : Stop (32 :: q) := Or.inr (Or.inr ⟨q, rfl⟩)
theorem Sits.nope {l : List UInt8} {n : Nat} {r : List UInt8} (h : Sits l n [] r) (s : Stop r) (c : Int) (h1 : c ≠ 44) (h2 : c ≠ 32) : isB l n c = false := by
  rcases s with rfl | ⟨q, rfl⟩ | ⟨q, rfl⟩
  · have := h.len
    simp at this
    unfold isB
    rw [decide_eq_false (by omega), Bool.false_and]
  · rw [Sits.is (b := 44) (x := []) (r := q) ⟨h.le, h.eq⟩]; exact decide_eq_false (fun k => h1 k.symm)
  · rw [Sits.is (b := 32) (x := []) (r := q) ⟨h.le, h.eq⟩]; exact decide_eq_false (fun k => h2 k.symm)
/-- No digit stands ahead. -/
def NoDig (r : List UInt8) : Prop := ∀ b q, r = b :: q → digitB (b.toNat : Int) = false
theorem Stop.noDig {r : List UInt8} (h : Stop r) : NoDig r := by
  rcases h with rfl | ⟨q, rfl⟩ | ⟨q, rfl⟩
  · intro b q e; cases e
  · intro b q e; cases e; decide
  · intro b q e; cases e; decide
theorem noDig_dash (q : List UInt8) : NoDig (45 :: q) := by intro b q e; cases e; decide
theorem dig_nat (k : Nat) (h : k < 10) : (UInt8.ofNat (48 + k)).toNat = 48 + k := by
  rcases (show k = 0 ∨ k = 1 ∨ k = 2 ∨ k = 3 ∨ k = 4 ∨ k = 5 ∨ k = 6 ∨ k = 7 ∨ k = 8 ∨ k = 9 by omega) with rfl | rfl | rfl | rfl | rfl | rfl | rfl | rfl | rfl | rfl <;> rfl
theorem dig_is (k : Nat) (h : k < 10) : digitB ((UInt8.ofNat (48 + k)).toNat : Int) = true := by
  rw [dig_nat k h, digitB_iff]; omega
theorem while_no {r : List UInt8} (h : NoDig r) : r.takeWhile (fun b => digitB b.toNat) = [] := by
  cases r with
  | nil => rfl
  | cons b q => rw [List.takeWhile_cons, if_neg (by rw [h b q rfl]; decide)]
theorem run_dec {l : List UInt8} {n a : Nat} {r : List UInt8} (h : Sits l n (dec a) r) (ha : a < 100) (hr : NoDig r) : runEnd l n = n + (dec a).length := by
  unfold runEnd
  rw [h.eq]
  congr 1
  unfold dec
  split
  · rw [List.cons_append, List.nil_append, List.takeWhile_cons, if_pos (dig_is a (by omega)), while_no hr]
  · rw [List.cons_append, List.cons_append, List.nil_append, List.takeWhile_cons, if_pos (dig_is _ (by omega)), List.takeWhile_cons, if_pos (dig_is _ (by omega)), while_no hr]
theorem numS_dec {l : List UInt8} {n a lo hi : Nat} {r : List UInt8} (h : Sits l n (dec a) r) (ha : a < 100) (hr : NoDig r) (h0 : lo ≤ a) (h1 : a ≤ hi) : numS l n lo hi = some (a, n + (dec a).length) := by
  have e := run_dec h ha hr
  have v : valS l n = some a := by
    unfold valS
    rw [e]
    unfold dec at h ⊢
    by_cases k : a < 10
    · rw [if_pos k] at h ⊢
      rw [if_pos (by rfl), h.head.1, dig_nat a k]
      congr 1; omega
    · rw [if_neg k] at h ⊢
      have b0 := h.head.1
      have b1 := (Sits.next (x := [UInt8.ofNat (48 + a / 10)]) (y := [UInt8.ofNat (48 + a % 10)]) h).head.1
      rw [dig_nat _ (by omega)] at b0 b1
      rw [List.length_cons, List.length_nil] at b1
      rw [if_neg (by simp), if_pos ⟨by rfl, by rw [b0]; omega⟩, b0, b1]
      congr 1; omega
  unfold numS
  rw [v, e]
  exact if_pos ⟨h0, h1⟩
theorem dec_head (a : Nat) (ha : a < 100) : ∃ b q, dec a = b :: q ∧ 48 ≤ b.toNat ∧ b.toNat ≤ 57 := by
  unfold dec
  split
  · exact ⟨_, _, rfl, by rw [dig_nat a (by omega)]; omega, by rw [dig_nat a (by omega)]; omega⟩
  · exact ⟨_, _, rfl, by rw [dig_nat _ (by omega)]; omega, by rw [dig_nat _ (by omega)]; omega⟩
theorem dec_star {l : List UInt8} {n a : Nat} {r : List UInt8} (h : Sits l n (dec a) r) (ha : a < 100) : isB l n 42 = false := by
  obtain ⟨b, q, e, h0, h1⟩ := dec_head a ha
  rw [e] at h
  rw [h.is]; exact decide_eq_false (by omega)
theorem itemS_one {l : List UInt8} {n a lo hi : Nat} {r : List UInt8} (h : Sits l n (dec a) r) (ha : a < 100) (hr : Stop r) (h0 : lo ≤ a) (h1 : a ≤ hi) : itemS l n lo hi = .ok (2 ^ a, n + (dec a).length) := by
  unfold itemS
  rw [dec_star h ha, numS_dec h ha hr.noDig h0 h1]
  have := h.past.nope hr 45 (by decide) (by decide)
  simp [this]
theorem itemS_run {l : List UInt8} {n a b lo hi : Nat} {r : List UInt8} (h : Sits l n (dec a ++ 45 :: dec b) r) (hb : b < 100) (hr : Stop r) (h0 : lo ≤ a) (h1 : a ≤ b) (h2 : b ≤ hi) : itemS l n lo hi = .ok (evS a b 1, n + (dec a ++ 45 :: dec b).length) := by
  have s1 : Sits l n (dec a) (45 :: (dec b ++ r)) := h.split
  have s2 := h.next
  have s3 : Sits l (n + (dec a).length + 1) (dec b) r := Sits.next (x := [45]) (y := dec b) s2
  unfold itemS
  rw [dec_star s1 (by omega), numS_dec s1 (by omega) (noDig_dash _) h0 (by omega)]
  have i1 : isB l (n + (dec a).length) 45 = true := by rw [s2.is]; rfl
  simp only [i1, Bool.false_eq_true, if_false, if_true]
  rw [numS_dec s3 hb hr.noDig h1 h2]
  have := s3.past.nope hr 47 (by decide) (by decide)
  simp only [stepsS, this, Bool.false_eq_true, if_false, List.length_append, List.length_cons]
  congr 2; omega
theorem itemS_star {l : List UInt8} {n lo hi : Nat} {r : List UInt8} (h : Sits l n [42] r) (hr : Stop r) : itemS l n lo hi = .ok (evS lo hi 1, n + 1) := by
  have i1 : isB l n 42 = true := by rw [h.is]; rfl
  have := h.past.nope hr 47 (by decide) (by decide)
  rw [List.length_cons, List.length_nil] at this
  unfold itemS
  simp [i1, stepsS, this]
theorem fS_go {l : List UInt8} {lo hi k n acc s e : Nat} (h : itemS l n lo hi = .ok (s, e)) (hc : isB l e 44 = true) : fieldS l lo hi (k + 1) n acc = fieldS l lo hi k (e + 1) (acc ||| s) := by
  conv => lhs; unfold fieldS
  rw [h]; exact if_pos hc
theorem fS_end {l : List UInt8} {lo hi k n acc s e : Nat} (h : itemS l n lo hi = .ok (s, e)) (hc : isB l e 44 = false) : fieldS l lo hi (k + 1) n acc = .ok (acc ||| s, e) := by
  conv => lhs; unfold fieldS
  rw [h]; exact if_neg (by rw [hc]; decide)
theorem evS_bit (a b i : Nat) : (evS a b 1).testBit i = decide (i < 64 ∧ a ≤ i ∧ i ≤ b) := by
  unfold evS
  rw [evUp_bit, decide_eq_decide]
  simp [Nat.mod_one]
  omega
theorem evS_one {a : Nat} (h : a < 64) : evS a a 1 = 2 ^ a := by
  apply Nat.eq_of_testBit_eq
  intro i
  rw [evS_bit, Nat.testBit_two_pow, decide_eq_decide]
  omega
theorem evS_two {a : Nat} (h : a + 1 < 64) : evS a (a + 1) 1 = 2 ^ a ||| 2 ^ (a + 1) := by
  apply Nat.eq_of_testBit_eq
  intro i
  rw [evS_bit, Nat.testBit_or, Nat.testBit_two_pow, Nat.testBit_two_pow, ← Bool.decide_or, decide_eq_decide]
  omega
/-- A run is read; a comma stands behind it. -/
theorem run_go {l : List UInt8} {n a b lo hi k acc : Nat} {y r : List UInt8} (h : Sits l n (runT a b ++ 44 :: y) r) (h0 : lo ≤ a) (h1 : a ≤ b) (h2 : b ≤ hi) (hh : hi < 64) :
    ∃ k', k ≤ k' ∧ fieldS l lo hi (k + 2) n acc = fieldS l lo hi k' (n + (runT a b).length + 1) (acc ||| evS a b 1) := by
  have hc : isB l (n + (runT a b).length) 44 = true := by rw [h.next.is]; rfl
  have hs := h.split
  unfold runT at hs hc ⊢
  by_cases e : b = a
  · rw [if_pos e] at hs hc ⊢
    subst e
    exact ⟨k + 1, by omega, by rw [fS_go (itemS_one hs (by omega) (.comma _) h0 h2) hc, evS_one (by omega)]⟩
  · rw [if_neg e] at hs hc ⊢
    by_cases e2 : b = a + 1
    · rw [if_pos e2] at hs hc ⊢
      subst e2
      have s1 : Sits l n (dec a) (44 :: (dec (a + 1) ++ (44 :: y ++ r))) := hs.split
      have s2 := hs.next
      have s3 : Sits l (n + (dec a).length + 1) (dec (a + 1)) (44 :: (y ++ r)) := Sits.next (x := [44]) (y := dec (a + 1)) s2
      have c1 : isB l (n + (dec a).length) 44 = true := by rw [s2.is]; rfl
      rw [List.length_append, List.length_cons] at hc ⊢
      have c2 : isB l (n + (dec a).length + 1 + (dec (a + 1)).length) 44 = true := by rw [← hc]; congr 1; omega
      refine ⟨k, Nat.le_refl _, ?_⟩
      rw [fS_go (itemS_one s1 (by omega) (.comma _) h0 (by omega)) c1, fS_go (itemS_one s3 (by omega) (.comma _) (by omega) h2) c2, evS_two (by omega), Nat.or_assoc]
      congr 1; omega
    · rw [if_neg e2] at hs hc ⊢
      exact ⟨k + 1, by omega, by rw [fS_go (itemS_run hs (by omega) (.comma _) h0 h1 h2) hc]⟩
/-- The last run is read. -/
theorem run_end {l : List UInt8} {n a b lo hi k acc : Nat} {r : List UInt8} (h : Sits l n (runT a b) r) (hr : Stop r) (hn : isB l (n + (runT a b).length) 44 = false) (h0 : lo ≤ a) (h1 : a ≤ b) (h2 : b ≤ hi) (hh : hi < 64) :
    fieldS l lo hi (k + 2) n acc = .ok (acc ||| evS a b 1, n + (runT a b).length) := by
  unfold runT at h hn ⊢
  by_cases e : b = a
  · rw [if_pos e] at h hn ⊢
    subst e
    rw [fS_end (itemS_one h (by omega) hr h0 h2) hn, evS_one (by omega)]
  · rw [if_neg e] at h hn ⊢
    by_cases e2 : b = a + 1
    · rw [if_pos e2] at h hn ⊢
      subst e2
      have s1 : Sits l n (dec a) (44 :: (dec (a + 1) ++ r)) := h.split
      have s2 := h.next
      have s3 : Sits l (n + (dec a).length + 1) (dec (a + 1)) r := Sits.next (x := [44]) (y := dec (a + 1)) s2
      have c1 : isB l (n + (dec a).length) 44 = true := by rw [s2.is]; rfl
      rw [List.length_append, List.length_cons] at hn ⊢
      have c2 : isB l (n + (dec a).length + 1 + (dec (a + 1)).length) 44 = false := by rw [← hn]; congr 1; omega
      rw [fS_go (itemS_one s1 (by omega) (.comma _) h0 (by omega)) c1, fS_end (itemS_one s3 (by omega) hr (by omega) h2) c2, evS_two (by omega), Nat.or_assoc]
      congr 2; omega
    · rw [if_neg e2] at h hn ⊢
      rw [fS_end (itemS_run h (by omega) hr h0 h1 h2) hn]
/-- The numbers of runs. -/
def bitsR : List (Nat × Nat) → Nat → Nat
  | [], acc => acc
  | p :: rs, acc => bitsR rs (acc ||| evS p.1 p.2 1)
abbrev runsT (rs : List (Nat × Nat)) : List (List UInt8) := rs.map fun p => runT p.1 p.2
theorem fieldS_runs {l : List UInt8} {lo hi : Nat} {r : List UInt8} (hh : hi < 64) (hr : Stop r) (hq : ∀ n, Sits l n [] r → isB l n 44 = false) : ∀ (rs : List (Nat × Nat)) (k n acc : Nat), rs ≠ [] → (∀ p ∈ rs, lo ≤ p.1 ∧ p.1 ≤ p.2 ∧ p.2 ≤ hi) →
    Sits l n (Lib.join (runsT rs) [44]) r → 2 * rs.length ≤ k → fieldS l lo hi k n acc = .ok (bitsR rs acc, n + (Lib.join (runsT rs) [44]).length)
  | [], _, _, _, h, _, _, _ => absurd rfl h
  | [p], k, n, acc, _, hp, hs, hk => by
    obtain ⟨k, rfl⟩ : ∃ j, k = j + 2 := ⟨k - 2, by simp at hk; omega⟩
    have := hp p (by simp)
    rw [show runsT [p] = [runT p.1 p.2] from rfl, Lib.join_one] at hs ⊢
    exact run_end hs hr (hq _ hs.past) this.1 this.2.1 this.2.2 hh
  | p :: q :: rs, k, n, acc, _, hp, hs, hk => by
    obtain ⟨k, rfl⟩ : ∃ j, k = j + 2 := ⟨k - 2, by simp at hk; omega⟩
    have := hp p (by simp)
    rw [show runsT (p :: q :: rs) = runT p.1 p.2 :: runT q.1 q.2 :: runsT rs from rfl, join_cons2] at hs ⊢
    obtain ⟨k', hk', e⟩ := run_go (k := k) (acc := acc) hs this.1 this.2.1 this.2.2 hh
    rw [e]
    have hs2 : Sits l (n + (runT p.1 p.2).length + 1) (Lib.join (runsT (q :: rs)) [44]) r := Sits.next (x := [44]) hs.next
    rw [fieldS_runs hh hr hq (q :: rs) k' _ _ (by simp) (fun x hx => hp x (by simp [hx])) hs2 (by simp at hk ⊢; omega)]
    simp only [bitsR, List.length_append, List.length_cons, List.length_nil, show runsT (q :: rs) = runT q.1 q.2 :: runsT rs from rfl]
    congr 2; omega
/-- The runs that begin below n. -/
def runsUp (S : Nat) : Nat → List (Nat × Nat)
  | 0 => []
  | n + 1 => runsUp S n ++ if startB S n = true then [(n, endOf S n)] else []
theorem items_runs (S : Nat) : ∀ n, itemsUp S n = runsT (runsUp S n)
  | 0 => rfl
  | n + 1 => by
    unfold itemsUp runsUp
    rw [items_runs S n]
    split <;> simp
theorem mem_runs (S : Nat) (p : Nat × Nat) : ∀ n, p ∈ runsUp S n ↔ p.1 < n ∧ startB S p.1 = true ∧ p.2 = endOf S p.1
  | 0 => by simp [runsUp]
  | n + 1 => by
    unfold runsUp
    rw [List.mem_append, mem_runs S p n]
    by_cases h : startB S n = true
    · rw [if_pos h]
      constructor
      · rintro (⟨h1, h2⟩ | h1)
        · exact ⟨by omega, h2⟩
        · simp at h1; subst h1; exact ⟨by simp, h, rfl⟩
      · rintro ⟨h1, h2, h3⟩
        by_cases hn : p.1 = n
        · right; obtain ⟨a, b⟩ := p; simp at *; subst hn; exact ⟨rfl, h3⟩
        · exact .inl ⟨by omega, h2, h3⟩
    · rw [if_neg h]
      constructor
      · rintro (⟨h1, h2⟩ | h1)
        · exact ⟨by omega, h2⟩
        · cases h1
      · rintro ⟨h1, h2, h3⟩
        by_cases hn : p.1 = n
        · rw [hn] at h2; exact absurd h2 h
        · exact .inl ⟨by omega, h2, h3⟩
theorem bitsR_bit (i : Nat) : ∀ (rs : List (Nat × Nat)) (acc : Nat), (bitsR rs acc).testBit i = true ↔ acc.testBit i = true ∨ ∃ p ∈ rs, i < 64 ∧ p.1 ≤ i ∧ i ≤ p.2
  | [], acc => by simp [bitsR]
  | p :: rs, acc => by
    unfold bitsR
    rw [bitsR_bit i rs, Nat.testBit_or, evS_bit, Bool.or_eq_true, decide_eq_true_eq]
    simp only [List.mem_cons]
    constructor
    · rintro ((h | h) | ⟨q, h1, h2⟩)
      · exact .inl h
      · exact .inr ⟨p, .inl rfl, h⟩
      · exact .inr ⟨q, .inr h1, h2⟩
    · rintro (h | ⟨q, h1 | h1, h2⟩)
      · exact .inl (.inl h)
      · subst h1; exact .inl (.inr h2)
      · exact .inr ⟨q, h1, h2⟩
theorem start_bit {S a : Nat} (h : startB S a = true) : S.testBit a = true := by unfold startB at h; rw [Bool.and_eq_true] at h; exact h.1
theorem start_of {S : Nat} (hS : S < 18446744073709551616) : ∀ i, S.testBit i = true → ∃ a, a ≤ i ∧ startB S a = true ∧ i ≤ endOf S a
  | 0, h => ⟨0, Nat.le_refl _, by unfold startB; rw [h]; rfl, Nat.zero_le _⟩
  | i + 1, h => by
    have hi := bit_lt hS h
    cases hb : S.testBit i with
    | false =>
      exact ⟨i + 1, Nat.le_refl _, by unfold startB; rw [h, Nat.add_sub_cancel, hb]; simp, (endOf_ends hS hi).le⟩
    | true =>
      obtain ⟨a, h1, h2, h3⟩ := start_of hS i hb
      have e := endOf_ends (n := a) hS (by omega)
      refine ⟨a, by omega, h2, ?_⟩
      rcases Nat.lt_or_ge i (endOf S a) with c | c
      · omega
      · have : endOf S a = i := by omega
        have hx := e.no
        rw [this, h] at hx; cases hx
theorem bitsR_runs {S : Nat} (hS : S < 18446744073709551616) : bitsR (runsUp S 64) 0 = S := by
  apply Nat.eq_of_testBit_eq
  intro i
  rw [Bool.eq_iff_iff, bitsR_bit]
  constructor
  · rintro (h | ⟨p, h1, h2, h3, h4⟩)
    · simp at h
    · obtain ⟨k1, k2, k3⟩ := (mem_runs S p 64).1 h1
      have e := endOf_ends (n := p.1) hS k1
      by_cases c : i = p.1
      · rw [c]; exact start_bit k2
      · exact e.all i (by omega) (by omega)
  · intro h
    obtain ⟨a, h1, h2, h3⟩ := start_of hS i h
    have := bit_lt hS h
    exact .inr ⟨(a, endOf S a), (mem_runs S _ 64).2 ⟨by simp only; omega, h2, rfl⟩, this, h1, h3⟩
theorem runs_in {S lo hi : Nat} (hS : S < 18446744073709551616) (hb : ∀ i, S.testBit i = true → lo ≤ i ∧ i ≤ hi) : ∀ p ∈ runsUp S 64, lo ≤ p.1 ∧ p.1 ≤ p.2 ∧ p.2 ≤ hi := by
  intro p hp
  obtain ⟨k1, k2, k3⟩ := (mem_runs S p 64).1 hp
  have e := endOf_ends (n := p.1) hS k1
  have h1 := hb _ (start_bit k2)
  refine ⟨h1.1, by rw [k3]; exact e.le, ?_⟩
  rw [k3]
  by_cases c : endOf S p.1 = p.1
  · rw [c]; exact h1.2
  · exact (hb _ (e.all _ (by have := e.le; omega) (Nat.le_refl _))).2
theorem runs_some {S : Nat} (hS : S < 18446744073709551616) (h0 : S ≠ 0) : runsUp S 64 ≠ [] := by
  intro e
  have := bitsR_runs hS
  rw [e] at this
  exact h0 this.symm
theorem join_long (rs : List (Nat × Nat)) : 2 * rs.length ≤ (Lib.join (runsT rs) [44]).length + 1 := by
  match rs with
  | [] => simp
  | [p] => rw [show runsT [p] = [runT p.1 p.2] from rfl, Lib.join_one]; have := runT_len p.1 p.2; simp; omega
  | p :: q :: rs =>
    rw [show runsT (p :: q :: rs) = runT p.1 p.2 :: runT q.1 q.2 :: runsT rs from rfl, join_cons2]
    have := join_long (q :: rs)
    rw [show runsT (q :: rs) = runT q.1 q.2 :: runsT rs from rfl] at this
    have h2 := runT_len p.1 p.2
    simp only [List.length_append, List.length_cons, List.length_nil] at *
    omega
/-- A field's numbers: some, and none that isn't of the field. -/
structure OkSet (S lo hi : Nat) : Prop where
  lt : S < 18446744073709551616
  ne : S ≠ 0
  bits : ∀ i, S.testBit i = true → lo ≤ i ∧ i ≤ hi
theorem fieldT_reads {l : List UInt8} {S lo hi n : Nat} {r : List UInt8} (h : OkSet S lo hi) (hh : hi < 64) (hr : r = [] ∨ ∃ q, r = 32 :: q) (hs : Sits l n (fieldT S lo hi) r) :
    fieldS l lo hi (l.length + 1) n 0 = .ok (S, n + (fieldT S lo hi).length) := by
  have hst : Stop r := by
    rcases hr with e | ⟨q, e⟩ <;> rw [e]
    · exact .nil
    · exact .blank q
  have hq : ∀ n, Sits l n [] r → isB l n 44 = false := fun n hx => by
    rcases hr with e | ⟨q, e⟩
    · subst e
      have := hx.len
      simp at this
      unfold isB
      rw [decide_eq_false (by omega), Bool.false_and]
    · subst e
      rw [Sits.is (b := 32) (x := []) (r := q) ⟨hx.le, hx.eq⟩]; rfl
  have hlen := hs.len
  unfold fieldT at hs hlen ⊢
  by_cases e : S = evS lo hi 1
  · rw [if_pos e] at hs ⊢
    rw [fS_end (itemS_star hs hst) (hq _ hs.past), Nat.zero_or, ← e]; rfl
  · rw [if_neg e] at hs hlen ⊢
    rw [items_runs] at hs hlen ⊢
    have := join_long (runsUp S 64)
    rw [fieldS_runs hh hst hq _ _ _ _ (runs_some h.lt h.ne) (runs_in h.lt h.bits) hs (by omega), bitsR_runs h.lt]
/-- The text of five sets. -/
def textL (g : Nat → Nat) : List UInt8 :=
  fieldT (g 0) 0 59 ++ 32 :: (fieldT (g 1) 0 23 ++ 32 :: (fieldT (g 2) 1 31 ++ 32 :: (fieldT (g 3) 1 12 ++ 32 :: fieldT (g 4) 0 6)))
theorem upto_step {l : List UInt8} {i n s e : Nat} {ss : List Nat} (h : upto l i = .ok (ss, n)) (hc : i = 0 ∨ isB l n 32 = true) (hf : fieldS l (lowN i) (highN i) (l.length + 1) (if i = 0 then n else n + 1) 0 = .ok (s, e)) : upto l (i + 1) = .ok (ss ++ [s], e) := by
  conv => lhs; unfold upto
  rw [h]
  simp only
  rw [if_neg (by rintro ⟨h1, h2⟩; rcases hc with c | c; · exact h1 c
                 · rw [h2] at c; cases c), hf]
theorem text_reads (g : Nat → Nat) (h : ∀ i, i < 5 → OkSet (g i) (lowN i) (highN i)) : readS (textL g) = .ok [g 0, g 1, g 2, g 3, g 4] := by
  generalize hl : textL g = l
  have s0 : Sits l 0 (textL g) [] := ⟨Nat.zero_le _, by rw [hl]; simp⟩
  unfold textL at s0
  have f0 := fieldT_reads (h 0 (by omega)) (by decide) (.inr ⟨_, rfl⟩) s0.split
  have s1 := s0.next
  have b1 : isB l (0 + (fieldT (g 0) 0 59).length) 32 = true := by rw [s1.is]; rfl
  have s1 := Sits.next (x := [32]) s1
  have f1 := fieldT_reads (h 1 (by omega)) (by decide) (.inr ⟨_, rfl⟩) s1.split
  have s2 := s1.next
  have b2 := s2.is 32
  have s2 := Sits.next (x := [32]) s2
  have f2 := fieldT_reads (h 2 (by omega)) (by decide) (.inr ⟨_, rfl⟩) s2.split
  have s3 := s2.next
  have b3 := s3.is 32
  have s3 := Sits.next (x := [32]) s3
  have f3 := fieldT_reads (h 3 (by omega)) (by decide) (.inr ⟨_, rfl⟩) s3.split
  have s4 := s3.next
  have b4 := s4.is 32
  have s4 := Sits.next (x := [32]) (y := fieldT (g 4) 0 6) s4
  have f4 := fieldT_reads (h 4 (by omega)) (by decide) (.inl rfl) s4
  have u1 := upto_step (l := l) (i := 0) rfl (.inl rfl) f0
  have u2 := upto_step u1 (.inr b1) f1
  have u3 := upto_step u2 (.inr b2) f2
  have u4 := upto_step u3 (.inr b3) f3
  have u5 := upto_step u4 (.inr b4) f4
  have := s4.past.len
  simp only [List.length_nil, Nat.add_zero] at this
  unfold readS
  rw [show (4 : Nat) + 1 = 5 from rfl] at u5
  rw [u5]
  simp only
  exact if_neg (Nat.not_lt.2 (Nat.le_of_eq this.symm))
end Go.Proofs.YtddinknnaakmmaaDoor

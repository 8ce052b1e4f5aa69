/- Durations, plain: read byte by byte; read part by part; told. -/
import Derived.Test.YtecdfnpbcabdnaaGreatDoorNuT
namespace Go.Proofs.YtecdfnpbcabdnaaGreatDoor
open Go.Lib

/-- The seconds of a part, by its place; its letter. -/
def wrt : Nat → Nat
  | 0 => 86400
  | 1 => 3600
  | 2 => 60
  | 3 => 1
  | _ => 0
def ltr : Nat → Nat
  | 0 => 100
  | 1 => 104
  | 2 => 109
  | 3 => 115
  | _ => 0
/-- The place of the part that the letter names, from a place on. -/
def part (c nx : Nat) : Option Nat :=
  if nx ≤ 0 ∧ c = 100 then some 0 else if nx ≤ 1 ∧ c = 104 then some 1 else if nx ≤ 2 ∧ c = 109 then some 2 else if nx ≤ 3 ∧ c = 115 then some 3 else none
theorem part_four (c nx : Nat) (h : 4 ≤ nx) : part c nx = none := by unfold part; rw [if_neg (by omega), if_neg (by omega), if_neg (by omega), if_neg (by omega)]
theorem four {n : Nat} (h : n < 4) : n = 0 ∨ n = 1 ∨ n = 2 ∨ n = 3 := by omega
theorem part_hit (nx m : Nat) (h : nx < 4) (hm : m ≤ nx) : part (ltr nx) m = some nx := by
  rcases four h with rfl | rfl | rfl | rfl <;> simp [part, ltr] <;> omega
theorem part_miss (c nx : Nat) (h : nx < 4) (hc : c ≠ ltr nx) : part c nx = part c (nx + 1) := by
  rcases four h with rfl | rfl | rfl | rfl <;> (simp only [ltr] at hc; simp [part, hc])
theorem part_some {c nx j : Nat} (h : part c nx = some j) : nx ≤ j ∧ j < 4 ∧ c = ltr j := by
  unfold part at h
  split at h
  · cases h; exact ⟨by omega, by decide, by simp only [ltr]; omega⟩
  · split at h
    · cases h; exact ⟨by omega, by decide, by simp only [ltr]; omega⟩
    · split at h
      · cases h; exact ⟨by omega, by decide, by simp only [ltr]; omega⟩
      · split at h
        · cases h; exact ⟨by omega, by decide, by simp only [ltr]; omega⟩
        · cases h
theorem wrt_le (j : Nat) : wrt j ≤ 86400 := by unfold wrt; split <;> decide
/-- What is read behind a sum, a count that is under way, and the next part. -/
def sp (sum cnt nx : Nat) : List UInt8 → Option Nat
  | [] => if cnt = 0 ∧ 1 ≤ sum ∧ sum ≤ 604800 then some sum else none
  | b :: r =>
    if isD b = true then (if vstep cnt b = 0 ∨ 999999 < vstep cnt b then none else sp sum (vstep cnt b) nx r)
    else match part b.toNat nx with
      | none => none
      | some j => if cnt = 0 then none else sp (sum + cnt * wrt j) 0 (j + 1) r
def spanN (l : List UInt8) : Option Nat := sp 0 0 0 l
theorem sp_nil (sum cnt nx : Nat) : sp sum cnt nx [] = if cnt = 0 ∧ 1 ≤ sum ∧ sum ≤ 604800 then some sum else none := rfl
theorem sp_dig (sum cnt nx : Nat) (b : UInt8) (r : List UInt8) (h : isD b = true) : sp sum cnt nx (b :: r) = if vstep cnt b = 0 ∨ 999999 < vstep cnt b then none else sp sum (vstep cnt b) nx r := by
  rw [sp, if_pos h]
theorem sp_no (sum cnt nx : Nat) (b : UInt8) (r : List UInt8) (h : isD b = false) (hp : part b.toNat nx = none ∨ cnt = 0) : sp sum cnt nx (b :: r) = none := by
  rw [sp, if_neg (by simp [h])]
  rcases hp with hp | hp
  · rw [hp]
  · split
    · rfl
    · rw [if_pos hp]
theorem sp_part (sum cnt nx j : Nat) (b : UInt8) (r : List UInt8) (h : isD b = false) (hp : part b.toNat nx = some j) (hc : cnt ≠ 0) : sp sum cnt nx (b :: r) = sp (sum + cnt * wrt j) 0 (j + 1) r := by
  rw [sp, if_neg (by simp [h]), hp]
  simp only
  rw [if_neg hc]
theorem sp_more (sum nx : Nat) (r : List UInt8) : ∀ (W : List UInt8) (cnt : Nat), W.all isD = true → 1 ≤ cnt → cnt ≤ 999999 →
    sp sum cnt nx (W ++ r) = if W.foldl vstep cnt ≤ 999999 then sp sum (W.foldl vstep cnt) nx r else none
  | [], cnt, _, _, h2 => by rw [List.nil_append, List.foldl_nil, if_pos h2]
  | b :: t, cnt, ha, h1, _ => by
    rw [List.all_cons, Bool.and_eq_true] at ha
    rw [List.cons_append, sp_dig _ _ _ _ _ ha.1, List.foldl_cons]
    have h0 : 1 ≤ vstep cnt b := by unfold vstep; omega
    by_cases h : 999999 < vstep cnt b
    · rw [if_pos (.inr h), if_neg]
      rw [foldl_val]
      have : 1 ≤ 10 ^ t.length := Nat.one_le_pow _ _ (by decide)
      have : vstep cnt b * 1 ≤ vstep cnt b * 10 ^ t.length := Nat.mul_le_mul_left _ this
      omega
    · rw [if_neg (by omega)]
      exact sp_more sum nx r t (vstep cnt b) ha.2 h0 (by omega)
/-- A run of digits is one count. -/
theorem sp_run (sum nx : Nat) (W r : List UInt8) (ha : W.all isD = true) (hn : W ≠ []) :
    sp sum 0 nx (W ++ r) = if W.head? = some 48 ∨ 6 < W.length then none else sp sum (val W) nx r := by
  cases W with
  | nil => exact absurd rfl hn
  | cons b t =>
    have ha' := ha
    rw [List.all_cons, Bool.and_eq_true] at ha
    have hb := isD_iff.1 ha.1
    rw [List.cons_append, sp_dig _ _ _ _ _ ha.1]
    have e0 : vstep 0 b = b.toNat - 48 := by unfold vstep; omega
    by_cases h0 : b = 48
    · subst h0
      rw [if_pos (.inl rfl), if_pos (.inl rfl)]
    · have hb0 : b.toNat ≠ 48 := fun e => h0 (UInt8.toNat_inj.1 e)
      rw [if_neg (by omega), sp_more sum nx r t (vstep 0 b) ha.2 (by omega) (by omega)]
      have ev : t.foldl vstep (vstep 0 b) = val (b :: t) := rfl
      rw [ev]
      have hge := val_ge b t ha.1 h0
      have hlt := val_lt (b :: t) ha'
      by_cases h6 : 6 < (b :: t).length
      · rw [if_pos (c := _ ∨ _) (.inr h6), if_neg]
        have : 10 ^ 6 ≤ 10 ^ t.length := Nat.pow_le_pow_right (by decide) (by rw [List.length_cons] at h6; omega)
        have : 10 ^ 6 = 1000000 := by decide
        omega
      · rw [if_neg (c := _ ∨ _), if_pos]
        · have : 10 ^ (b :: t).length ≤ 10 ^ 6 := Nat.pow_le_pow_right (by decide) (by omega)
          have : 10 ^ 6 = 1000000 := by decide
          omega
        · rintro (h | h)
          · exact h0 (Option.some.inj h)
          · exact h6 h
theorem val_pos (W : List UInt8) (ha : W.all isD = true) (hn : W ≠ []) (h0 : W.head? ≠ some 48) : val W ≠ 0 := by
  cases W with
  | nil => exact absurd rfl hn
  | cons b t =>
    rw [List.all_cons, Bool.and_eq_true] at ha
    have := val_ge b t ha.1 (fun e => h0 (by rw [e]; rfl))
    have : 1 ≤ 10 ^ t.length := Nat.one_le_pow _ _ (by decide)
    omega
theorem val_six (W : List UInt8) (ha : W.all isD = true) (h : W.length ≤ 6) : val W ≤ 999999 := by
  have := val_lt W ha
  have : 10 ^ W.length ≤ 10 ^ 6 := Nat.pow_le_pow_right (by decide) h
  have : 10 ^ 6 = 1000000 := by decide
  omega
theorem ltr_no (j : Nat) (h : j < 4) : isD (UInt8.ofNat (ltr j)) = false ∧ (UInt8.ofNat (ltr j)).toNat = ltr j := by
  rcases four h with rfl | rfl | rfl | rfl <;> decide

/-! ### Told -/

def prt (c : Nat) (l : UInt8) : List UInt8 := if c = 0 then [] else decDigits c ++ [l]
def spanT (n : Nat) : List UInt8 := prt (n / 86400) 100 ++ prt (n % 86400 / 3600) 104 ++ prt (n % 3600 / 60) 109 ++ prt (n % 60) 115
theorem nD6 {c : Nat} (h : c < 1000000) : nDigits c ≤ 6 := (digs_pad 6 c (by decide) (by omega)).2
theorem sp_prt (sum nx c j : Nat) (r : List UInt8) (hj : j < 4) (hx : nx ≤ j) (hc : c < 1000000) :
    ∃ nx', nx' ≤ j + 1 ∧ sp sum 0 nx (prt c (UInt8.ofNat (ltr j)) ++ r) = sp (sum + c * wrt j) 0 nx' r := by
  unfold prt
  by_cases h : c = 0
  · rw [if_pos h, h]
    exact ⟨nx, by omega, by rw [List.nil_append]; simp⟩
  · rw [if_neg h, List.append_assoc, sp_run sum nx _ _ (dec_all c) (dec_ne c), decDigits_length, dec_val, if_neg]
    · obtain ⟨l1, l2⟩ := ltr_no j hj
      refine ⟨j + 1, Nat.le_refl _, ?_⟩
      rw [List.singleton_append, sp_part sum c nx j _ r l1 (by rw [l2]; exact part_hit j nx hj hx) h]
    · rintro (h1 | h1)
      · exact dec_head c h h1
      · have := nD6 hc
        omega
theorem span_back (n : Nat) (h1 : 1 ≤ n) (h2 : n ≤ 604800) : spanN (spanT n) = some n := by
  unfold spanN spanT
  rw [List.append_assoc, List.append_assoc]
  obtain ⟨a, ha, e1⟩ := sp_prt 0 0 (n / 86400) 0 (prt (n % 86400 / 3600) 104 ++ (prt (n % 3600 / 60) 109 ++ prt (n % 60) 115)) (by decide) (by decide) (by omega)
  obtain ⟨b, hb, e2⟩ := sp_prt (0 + n / 86400 * wrt 0) a (n % 86400 / 3600) 1 (prt (n % 3600 / 60) 109 ++ prt (n % 60) 115) (by decide) ha (by omega)
  obtain ⟨c, hc, e3⟩ := sp_prt (0 + n / 86400 * wrt 0 + n % 86400 / 3600 * wrt 1) b (n % 3600 / 60) 2 (prt (n % 60) 115) (by decide) hb (by omega)
  obtain ⟨d, _, e4⟩ := sp_prt (0 + n / 86400 * wrt 0 + n % 86400 / 3600 * wrt 1 + n % 3600 / 60 * wrt 2) c (n % 60) 3 [] (by decide) hc (by omega)
  rw [List.append_nil] at e4
  refine e1.trans (e2.trans (e3.trans (e4.trans ?_)))
  rw [sp_nil]
  simp only [wrt]
  rw [show 0 + n / 86400 * 86400 + n % 86400 / 3600 * 3600 + n % 3600 / 60 * 60 + n % 60 * 1 = n by omega, if_pos ⟨trivial, h1, h2⟩]
theorem sp_le {sum cnt nx n : Nat} {l : List UInt8} (h : sp sum cnt nx l = some n) : 1 ≤ n ∧ n ≤ 604800 := by
  induction l generalizing sum cnt nx with
  | nil =>
    rw [sp_nil] at h
    split at h
    · cases h; omega
    · cases h
  | cons b r ih =>
    rw [sp] at h
    split at h
    · split at h
      · cases h
      · exact ih h
    · split at h
      · cases h
      · split at h
        · cases h
        · exact ih h
theorem prt_len (c : Nat) (l : UInt8) (h : c < 1000000) : (prt c l).length ≤ 7 := by
  unfold prt
  split
  · simp
  · rw [List.length_append, decDigits_length]; have := nD6 h; simp; omega
end Go.Proofs.YtecdfnpbcabdnaaGreatDoor

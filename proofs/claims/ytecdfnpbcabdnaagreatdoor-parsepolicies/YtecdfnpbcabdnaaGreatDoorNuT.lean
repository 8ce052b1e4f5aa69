/- The shortest text of a number, plain; there and back. -/
import Derived.Test.YtecdfnpbcabdnaaGreatDoorNuP
namespace Go.Proofs.YtecdfnpbcabdnaaGreatDoor
open Go.Lib

theorem ofD_toNat (d : Nat) (h : d < 10) : (UInt8.ofNat (48 + d)).toNat = 48 + d := by
  rw [UInt8.toNat_ofNat']
  exact Nat.mod_eq_of_lt (by omega)
theorem ofD_is (d : Nat) (h : d < 10) : isD (UInt8.ofNat (48 + d)) = true := by rw [isD_iff, ofD_toNat d h]; omega
theorem all_snoc (a : List UInt8) (b : UInt8) : (a ++ [b]).all isD = (a.all isD && isD b) := by rw [List.all_append]; simp only [List.all_cons, List.all_nil, Bool.and_true]
theorem snoc_cases (m : List UInt8) : m = [] ∨ ∃ a b, m = a ++ [b] := by
  rcases List.eq_nil_or_concat m with h | ⟨a, b, h⟩
  · exact .inl h
  · exact .inr ⟨a, b, by rw [h, List.concat_eq_append]⟩
theorem tailR_nil (W : List UInt8) : tailR W [] = lim (sizeN W []) := rfl
theorem tailR_cons (W : List UInt8) (c : UInt8) (p : List UInt8) : tailR W (c :: p) = if c = 46 ∧ okP p = true then lim (sizeN W p) else none := rfl
theorem dec_small {u : Nat} (h : u < 10) : decDigits u = [UInt8.ofNat (48 + u)] := by rw [decDigits, dif_pos h]
theorem dec_big {u : Nat} (h : ¬ u < 10) : decDigits u = decDigits (u / 10) ++ [UInt8.ofNat (48 + u % 10)] := by rw [decDigits, dif_neg h]
theorem dec_all (u : Nat) : (decDigits u).all isD = true := by
  induction u using Nat.strongRecOn with
  | _ u ih =>
    by_cases h : u < 10
    · rw [dec_small h, List.all_cons, ofD_is u h]; rfl
    · rw [dec_big h, all_snoc, ih (u / 10) (by omega), ofD_is (u % 10) (by omega)]; rfl
theorem dec_val (u : Nat) : val (decDigits u) = u := by
  induction u using Nat.strongRecOn with
  | _ u ih =>
    by_cases h : u < 10
    · rw [dec_small h, show ∀ b, val [b] = 0 * 10 + (b.toNat - 48) from fun _ => rfl, ofD_toNat u h]; omega
    · rw [dec_big h, val_snoc, ih (u / 10) (by omega), ofD_toNat _ (by omega)]
      omega
theorem dec_ne (u : Nat) : decDigits u ≠ [] := by
  intro h
  have := decDigits_length u
  rw [h] at this
  have := nDigits_pos u
  simp at *
  omega
theorem dec_head (u : Nat) (h : u ≠ 0) : (decDigits u).head? ≠ some 48 := by
  induction u using Nat.strongRecOn with
  | _ u ih =>
    by_cases h1 : u < 10
    · rw [dec_small h1]
      simp only [List.head?_cons, ne_eq, Option.some.injEq]
      intro e
      have := congrArg UInt8.toNat e
      rw [ofD_toNat u h1] at this
      have : (48 : UInt8).toNat = 48 := rfl
      omega
    · rw [dec_big h1]
      have := ih (u / 10) (by omega) (by omega)
      have hn := dec_ne (u / 10)
      cases hd : decDigits (u / 10) with
      | nil => exact absurd hd hn
      | cons b r => rw [hd] at this; exact this
/-- k digits. -/
def digsN : Nat → Nat → List UInt8
  | 0, _ => []
  | k + 1, u => digsN k (u / 10) ++ [UInt8.ofNat (48 + u % 10)]
theorem digs_len : ∀ k u, (digsN k u).length = k
  | 0, _ => rfl
  | k + 1, u => by rw [digsN, List.length_append, digs_len k]; rfl
theorem digs_all : ∀ k u, (digsN k u).all isD = true
  | 0, _ => rfl
  | k + 1, u => by rw [digsN, all_snoc, digs_all k, ofD_is (u % 10) (by omega)]; rfl
theorem digs_val : ∀ k u, val (digsN k u) = u % 10 ^ k
  | 0, u => by simp [digsN, val, Nat.mod_one]
  | k + 1, u => by
    rw [digsN, val_snoc, digs_val k, ofD_toNat _ (by omega), Nat.pow_succ, Nat.mul_comm (10 ^ k) 10, Nat.mod_mul]
    omega
theorem digs_zero : ∀ k, digsN k 0 = List.replicate k 48
  | 0 => rfl
  | k + 1 => by
    rw [digsN, Nat.zero_div, digs_zero k, List.replicate_succ']
    rfl
theorem dec_split : ∀ k u, 10 ^ k ≤ u → decDigits u = decDigits (u / 10 ^ k) ++ digsN k u
  | 0, u, _ => by simp [digsN]
  | k + 1, u, h => by
    have hp : 1 ≤ 10 ^ k := Nat.one_le_pow _ _ (by decide)
    rw [Nat.pow_succ] at h
    rw [dec_big (by omega), dec_split k (u / 10) (by omega), digsN, List.append_assoc, Nat.pow_succ, Nat.mul_comm (10 ^ k) 10, Nat.div_div_eq_div_mul]
theorem digs_pad : ∀ k u, 1 ≤ k → u < 10 ^ k → digsN k u = List.replicate (k - nDigits u) 48 ++ decDigits u ∧ nDigits u ≤ k
  | 0, _, h, _ => absurd h (by decide)
  | k + 1, u, _, h => by
    by_cases h1 : u < 10
    · rw [dec_small h1, nDigits_small h1, digsN, show u / 10 = 0 by omega, digs_zero, Nat.mod_eq_of_lt h1]
      exact ⟨rfl, by omega⟩
    · rw [Nat.pow_succ] at h
      have hk : 1 ≤ k := by
        cases k with
        | zero => simp at h; omega
        | succ k => omega
      obtain ⟨e1, e2⟩ := digs_pad k (u / 10) hk (by omega)
      rw [dec_big h1, nDigits_big h1, digsN, e1, List.append_assoc, show k + 1 - (nDigits (u / 10) + 1) = k - nDigits (u / 10) by omega]
      exact ⟨rfl, by omega⟩
/-- At least seven digits. -/
def pad7 (u : Nat) : List UInt8 := List.replicate (7 - nDigits u) 48 ++ decDigits u
theorem pad7_eq (u : Nat) : pad7 u = decDigits (u / 1000000) ++ digsN 6 u := by
  unfold pad7
  by_cases h : u < 1000000
  · obtain ⟨e1, e2⟩ := digs_pad 6 u (by decide) (by omega)
    rw [e1, show u / 1000000 = 0 by omega, dec_small (by decide : 0 < 10), show 7 - nDigits u = (6 - nDigits u) + 1 by omega, List.replicate_succ]
    rfl
  · have e := dec_split 6 u (by omega)
    have hl := decDigits_length u
    have hp := nDigits_pos (u / 1000000)
    rw [e, List.length_append, digs_len, decDigits_length, show (10 : Nat) ^ 6 = 1000000 by decide] at hl
    rw [show 7 - nDigits u = 0 by omega, List.replicate_zero, List.nil_append]
    exact e
theorem one_digs (r : Nat) (h : r < 1000000) : decDigits (1000000 + r) = 49 :: digsN 6 r := by
  have e := dec_split 6 (1000000 + r) (by omega)
  rw [e, show (1000000 + r) / 10 ^ 6 = 1 by omega, dec_small (by decide : 1 < 10)]
  have : digsN 6 (1000000 + r) = digsN 6 r := by
    simp only [digsN, List.nil_append]
    have f : ∀ d : Nat, d = 1 ∨ d = 10 ∨ d = 100 ∨ d = 1000 ∨ d = 10000 ∨ d = 100000 → (1000000 + r) / d % 10 = r / d % 10 := by
      rintro d (rfl | rfl | rfl | rfl | rfl | rfl) <;> omega
    simp only [Nat.div_div_eq_div_mul]
    rw [f 10 (by omega), f (10 * 10) (by omega), f (10 * 10 * 10) (by omega), f (10 * 10 * 10 * 10) (by omega), f (10 * 10 * 10 * 10 * 10) (by omega), show (1000000 + r) % 10 = r % 10 by omega]
  rw [this]
  rfl
/-- Without the zeros at the end. -/
def trimZ (l : List UInt8) : List UInt8 := (l.reverse.dropWhile (· == 48)).reverse
/-- What stands behind the point. -/
def plc (u : Nat) : List UInt8 := trimZ (digsN 6 u)
/-- The text of u micro-units. -/
def textN (u : Nat) : List UInt8 := if u % 1000000 = 0 then decDigits (u / 1000000) else decDigits (u / 1000000) ++ 46 :: plc u
theorem trim_back (l : List UInt8) : ∃ k, l = trimZ l ++ List.replicate k 48 ∧ (∀ b, (trimZ l).getLast? = some b → b ≠ 48) := by
  unfold trimZ
  have key : ∀ m : List UInt8, ∃ k, m = List.replicate k 48 ++ m.dropWhile (· == 48) ∧ ∀ b, (m.dropWhile (· == 48)).head? = some b → b ≠ 48 := by
    intro m
    induction m with
    | nil => exact ⟨0, rfl, fun b hb => by simp at hb⟩
    | cons b r ih =>
      obtain ⟨k, e, h⟩ := ih
      by_cases hb : b = 48
      · subst hb
        refine ⟨k + 1, ?_, by simpa using h⟩
        rw [List.dropWhile_cons, if_pos (by rfl), List.replicate_succ, List.cons_append, ← e]
      · refine ⟨0, ?_, fun c hc => ?_⟩
        · rw [List.dropWhile_cons, if_neg (by simpa using hb)]; rfl
        · rw [List.dropWhile_cons, if_neg (by simpa using hb)] at hc
          simp at hc
          rw [← hc]; exact hb
  obtain ⟨k, e, h⟩ := key l.reverse
  refine ⟨k, ?_, fun b hb => h b (by rwa [List.getLast?_reverse] at hb)⟩
  have := congrArg List.reverse e
  rw [List.reverse_append, List.reverse_reverse, List.reverse_replicate] at this
  exact this
theorem trim_len (l : List UInt8) : (trimZ l).length ≤ l.length := by
  obtain ⟨k, e, _⟩ := trim_back l
  have := congrArg List.length e
  rw [List.length_append] at this
  omega
theorem trim_all (l : List UInt8) (h : l.all isD = true) : (trimZ l).all isD = true := by
  obtain ⟨k, e, _⟩ := trim_back l
  rw [e, List.all_append, Bool.and_eq_true] at h
  exact h.1
theorem trim_val (l : List UInt8) : val (trimZ l) * 10 ^ (l.length - (trimZ l).length) = val l := by
  obtain ⟨k, e, _⟩ := trim_back l
  have hk := congrArg List.length e
  rw [List.length_append, List.length_replicate] at hk
  have := val_pad (trimZ l) k
  rw [← e] at this
  rw [this, show l.length - (trimZ l).length = k by omega]
theorem plc_len (u : Nat) : (plc u).length ≤ 6 := by have := trim_len (digsN 6 u); rw [digs_len] at this; exact this
theorem plc_all (u : Nat) : (plc u).all isD = true := trim_all _ (digs_all 6 u)
theorem plc_val (u : Nat) : val (plc u) * 10 ^ (6 - (plc u).length) = u % 1000000 := by
  have := trim_val (digsN 6 u)
  rw [digs_len, digs_val] at this
  exact this
theorem plc_nil (u : Nat) : plc u = [] ↔ u % 1000000 = 0 := by
  have hv := plc_val u
  constructor
  · intro h; rw [h] at hv; simpa [val] using hv.symm
  · intro h
    obtain ⟨k, e, hl⟩ := trim_back (digsN 6 u)
    change digsN 6 u = plc u ++ _ at e
    change ∀ b, (plc u).getLast? = some b → b ≠ 48 at hl
    rw [h] at hv
    have h0 : val (plc u) = 0 := by
      have : 0 < 10 ^ (6 - (plc u).length) := Nat.pow_pos (by decide)
      rcases Nat.mul_eq_zero.1 hv with h | h
      · exact h
      · omega
    have ha := plc_all u
    generalize plc u = m at *
    rcases snoc_cases m with rfl | ⟨a, b, rfl⟩
    · rfl
    · exfalso
      rw [val_snoc] at h0
      rw [all_snoc, Bool.and_eq_true] at ha
      have hb := isD_iff.1 ha.2
      refine hl b (by simp) ?_
      apply UInt8.toNat_inj.1
      show b.toNat = 48
      omega
theorem dec_zero1 (u : Nat) : ¬ (1 < (decDigits u).length ∧ (decDigits u).head? = some 48) := by
  rintro ⟨h1, h2⟩
  by_cases h : u = 0
  · subst h; rw [dec_small (by decide)] at h1; simp at h1
  · exact dec_head u h h2
theorem read_text (u : Nat) : readN (textN u) = lim u := by
  unfold textN
  by_cases h : u % 1000000 = 0
  · rw [if_pos h]
    have := read_both (decDigits (u / 1000000)) [] (dec_all _) (dec_ne _) (dec_zero1 _) (fun c p h => by cases h)
    rw [List.append_nil] at this
    rw [this]
    rw [tailR_nil]
    unfold sizeN
    rw [dec_val, val_nil]
    congr 1
    rw [Nat.zero_mul]
    omega
  · rw [if_neg h, read_both (decDigits (u / 1000000)) (46 :: plc u) (dec_all _) (dec_ne _) (dec_zero1 _) (fun c p h => by cases h; rfl)]
    have hp : okP (plc u) = true := by
      unfold okP
      simp only [Bool.and_eq_true, decide_eq_true_eq]
      exact ⟨⟨fun e => h ((plc_nil u).1 e), plc_len u⟩, plc_all u⟩
    rw [tailR_cons, if_pos ⟨rfl, hp⟩]
    unfold sizeN
    rw [dec_val, plc_val]
    congr 1
    omega
/-- With a zero more at the end. -/
theorem read_zero (u : Nat) (h : u % 1000000 ≠ 0) : readN (textN u ++ [48]) = if (plc u).length = 6 then none else lim u := by
  unfold textN
  rw [if_neg h, List.append_assoc, List.cons_append, read_both (decDigits (u / 1000000)) (46 :: (plc u ++ [48])) (dec_all _) (dec_ne _) (dec_zero1 _) (fun c p h => by cases h; rfl)]
  have hl := plc_len u
  rw [tailR_cons]
  by_cases h6 : (plc u).length = 6
  · have : okP (plc u ++ [48]) = false := by
      unfold okP
      rw [List.length_append, h6]
      simp
    rw [if_pos h6, this]
    simp
  · have hp : okP (plc u ++ [48]) = true := by
      unfold okP
      rw [List.length_append, List.all_append, plc_all]
      simp
      exact ⟨by omega, by decide⟩
    rw [if_neg h6, if_pos ⟨rfl, hp⟩]
    unfold sizeN
    have hv := plc_val u
    have e : val (plc u ++ [48]) * 10 ^ (6 - (plc u ++ [48]).length) = u % 1000000 := by
      rw [val_snoc, List.length_append, ← hv, show 6 - (plc u).length = (6 - ((plc u).length + [(48 : UInt8)].length)) + 1 by simp; omega, Nat.pow_succ]
      show (val (plc u) * 10 + 0) * _ = _
      rw [Nat.add_zero, Nat.mul_assoc, Nat.mul_comm 10]
    rw [dec_val, e]
    congr 1
    omega
theorem nD_le (W : List UInt8) (h : W.all isD = true) (hn : W ≠ []) : nDigits (val W) ≤ W.length := by
  have hl : 1 ≤ W.length := by cases W with | nil => exact absurd rfl hn | cons _ _ => simp
  exact (digs_pad W.length (val W) hl (val_lt W h)).2
theorem all_ends (a : List UInt8) : val (trimZ a) = 0 → (trimZ a).all isD = true → trimZ a = [] := by
  intro h0 ha
  obtain ⟨_, _, hl⟩ := trim_back a
  generalize trimZ a = m at *
  rcases snoc_cases m with rfl | ⟨t, b, rfl⟩
  · rfl
  · exfalso
    rw [val_snoc] at h0
    rw [all_snoc, Bool.and_eq_true] at ha
    have hb := isD_iff.1 ha.2
    refine hl b (by simp) ?_
    apply UInt8.toNat_inj.1
    show b.toNat = 48
    omega
/-- What was read is told no longer than it stood. -/
theorem text_short (l : List UInt8) (u : Nat) (h : readN l = some u) : (textN u).length ≤ l.length := by
  rw [read_same] at h
  unfold readR at h
  by_cases hc : l.takeWhile isD = [] ∨ (1 < (l.takeWhile isD).length ∧ l.head? = some 48)
  · rw [if_pos hc] at h; cases h
  rw [if_neg hc] at h
  have hl : l.length = (l.takeWhile isD).length + (l.dropWhile isD).length := by
    have := congrArg List.length (split_run l)
    rwa [List.length_append] at this
  have ha := run_all l
  have hn : l.takeWhile isD ≠ [] := fun e => hc (.inl e)
  have hD := nD_le _ ha hn
  generalize l.takeWhile isD = W at *
  generalize l.dropWhile isD = r at *
  have hlim : ∀ v, lim v = some u → u = v := by
    intro v hv
    unfold lim at hv
    split at hv
    · exact (Option.some.inj hv).symm
    · cases hv
  cases r with
  | nil =>
    rw [tailR_nil] at h
    have e := hlim _ h
    unfold sizeN at e
    rw [val_nil, Nat.zero_mul] at e
    unfold textN
    rw [if_pos (by omega), decDigits_length, show u / 1000000 = val W by omega]
    simp at hl
    omega
  | cons c p =>
    rw [tailR_cons] at h
    by_cases hp : c = 46 ∧ okP p = true
    · rw [if_pos hp] at h
      have e := hlim _ h
      obtain ⟨_, hp⟩ := hp
      unfold okP at hp
      simp only [Bool.and_eq_true, decide_eq_true_eq] at hp
      obtain ⟨⟨_, p6⟩, pa⟩ := hp
      unfold sizeN at e
      have hv : val p * 10 ^ (6 - p.length) < 1000000 := by
        have := val_lt p pa
        have e6 : 10 ^ p.length * 10 ^ (6 - p.length) = 1000000 := by rw [← Nat.pow_add, show p.length + (6 - p.length) = 6 by omega]
        have : val p * 10 ^ (6 - p.length) < 10 ^ p.length * 10 ^ (6 - p.length) := Nat.mul_lt_mul_of_pos_right this (Nat.pow_pos (by decide))
        omega
      have eW : u / 1000000 = val W := by omega
      have eP : u % 1000000 = val p * 10 ^ (6 - p.length) := by omega
      rw [List.length_cons] at hl
      unfold textN
      by_cases h0 : u % 1000000 = 0
      · rw [if_pos h0, decDigits_length, eW]; omega
      · rw [if_neg h0, List.length_append, List.length_cons, decDigits_length, eW]
        have hq : (plc u).length ≤ p.length := by
          have e1 : digsN 6 u = p ++ List.replicate (6 - p.length) 48 := by
            have w1 : val (p ++ List.replicate (6 - p.length) 48) = u % 1000000 := by rw [val_pad, eP]
            have w2 : (p ++ List.replicate (6 - p.length) 48).length = 6 := by rw [List.length_append, List.length_replicate]; omega
            have w3 : (p ++ List.replicate (6 - p.length) 48).all isD = true := by
              rw [List.all_append, pa]
              simp [List.all_replicate]
              exact .inr (by decide)
            generalize p ++ List.replicate (6 - p.length) 48 = q at *
            have uniq : ∀ k (q : List UInt8) u, q.length = k → q.all isD = true → val q = u % 10 ^ k → digsN k u = q := by
              intro k
              induction k with
              | zero => intro q u hq _ _; cases q with | nil => rfl | cons _ _ => simp at hq
              | succ k ih =>
                intro q u hq hqa hqv
                rcases snoc_cases q with rfl | ⟨a, b, rfl⟩
                · simp at hq
                · rw [List.length_append] at hq
                  rw [all_snoc, Bool.and_eq_true] at hqa
                  have hb := isD_iff.1 hqa.2
                  rw [val_snoc, Nat.pow_succ, Nat.mul_comm (10 ^ k) 10, Nat.mod_mul] at hqv
                  rw [digsN, ih a (u / 10) (by simpa using hq) hqa.1 (by omega)]
                  congr 2
                  apply UInt8.toNat_inj.1
                  rw [ofD_toNat _ (by omega)]
                  omega
            exact uniq 6 q u w2 w3 w1
          unfold plc
          rw [e1]
          unfold trimZ
          rw [List.reverse_append, List.reverse_replicate]
          have dw : ∀ k (m : List UInt8), ((List.replicate k 48 ++ m).dropWhile (· == 48)).length ≤ m.length := by
            intro k m
            induction k with
            | zero =>
              rw [List.replicate_zero, List.nil_append]
              exact List.Sublist.length_le (List.dropWhile_sublist _)
            | succ k ih => rw [List.replicate_succ, List.cons_append, List.dropWhile_cons, if_pos (by rfl)]; exact ih
          have := dw (6 - p.length) p.reverse
          rw [List.length_reverse] at this ⊢
          exact this
        omega
    · rw [if_neg hp] at h; cases h
end Go.Proofs.YtecdfnpbcabdnaaGreatDoor

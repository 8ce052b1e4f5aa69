/- Digits, plain: what they are worth; a number's text cut at its point or at the end of its digits. The shortest text of a number, plain; there and back. Durations, plain: read byte by byte; read part by part; told. -/
import Derived.Lib.ItoaNum
section
namespace Go.Proofs.YtecdfnpbcabdnaaGreatDoor
open Go.Lib

def isD (b : UInt8) : Bool := decide (48 ≤ b.toNat) && decide (b.toNat ≤ 57)
theorem isD_iff {b : UInt8} : isD b = true ↔ 48 ≤ b.toNat ∧ b.toNat ≤ 57 := by unfold isD; simp
def vstep (n : Nat) (b : UInt8) : Nat := n * 10 + (b.toNat - 48)
/-- What digits are worth. -/
def val (l : List UInt8) : Nat := l.foldl vstep 0
theorem foldl_val (l : List UInt8) : ∀ n, l.foldl vstep n = n * 10 ^ l.length + val l := by
  unfold val
  induction l with
  | nil => intro n; simp
  | cons b r ih =>
    intro n
    rw [List.foldl_cons, List.foldl_cons, ih, ih (vstep 0 b), List.length_cons, Nat.pow_succ]
    unfold vstep
    generalize 10 ^ r.length = t
    generalize List.foldl vstep 0 r = u
    generalize b.toNat - 48 = v
    have e1 : (n * 10 + v) * t = n * 10 * t + v * t := Nat.add_mul _ _ _
    have e2 : (0 * 10 + v) * t = v * t := by simp
    have e3 : n * (t * 10) = n * 10 * t := by rw [Nat.mul_comm t 10, Nat.mul_assoc]
    omega
theorem val_nil : val [] = 0 := rfl
theorem val_app (a b : List UInt8) : val (a ++ b) = val a * 10 ^ b.length + val b := by
  rw [show val (a ++ b) = b.foldl vstep (val a) from List.foldl_append, foldl_val]
theorem val_snoc (a : List UInt8) (b : UInt8) : val (a ++ [b]) = val a * 10 + (b.toNat - 48) := by
  rw [val_app]; simp [val, vstep]
theorem val_cons (b : UInt8) (r : List UInt8) : val (b :: r) = (b.toNat - 48) * 10 ^ r.length + val r := by
  rw [show b :: r = [b] ++ r from rfl, val_app]; simp [val, vstep]
theorem val_lt (l : List UInt8) (h : l.all isD = true) : val l < 10 ^ l.length := by
  induction l with
  | nil => simp [val]
  | cons b r ih =>
    rw [List.all_cons, Bool.and_eq_true] at h
    have h1 := isD_iff.1 h.1
    have h2 := ih h.2
    rw [val_cons, List.length_cons, Nat.pow_succ]
    have : (b.toNat - 48) * 10 ^ r.length ≤ 9 * 10 ^ r.length := Nat.mul_le_mul_right _ (by omega)
    omega
theorem val_zeros (k : Nat) : val (List.replicate k 48) = 0 := by
  induction k with
  | zero => rfl
  | succ k ih => rw [List.replicate_succ, val_cons, ih]; simp
theorem val_pad (a : List UInt8) (k : Nat) : val (a ++ List.replicate k 48) = val a * 10 ^ k := by
  rw [val_app, val_zeros, List.length_replicate, Nat.add_zero]
theorem val_take (l : List UInt8) (k : Nat) : val (l.take k) ≤ val l := by
  have e : val l = val (l.take k) * 10 ^ (l.drop k).length + val (l.drop k) := by rw [← val_app, List.take_append_drop]
  have : 1 ≤ 10 ^ (l.drop k).length := Nat.one_le_pow _ _ (by decide)
  have : val (l.take k) * 1 ≤ val (l.take k) * 10 ^ (l.drop k).length := Nat.mul_le_mul_left _ this
  omega
theorem val_ge (b : UInt8) (r : List UInt8) (hb : isD b = true) (h0 : b ≠ 48) : 10 ^ r.length ≤ val (b :: r) := by
  rw [val_cons]
  have h1 := isD_iff.1 hb
  have : b.toNat ≠ 48 := fun h => h0 (UInt8.toNat_inj.1 h)
  have : 1 * 10 ^ r.length ≤ (b.toNat - 48) * 10 ^ r.length := Nat.mul_le_mul_right _ (by omega)
  omega

/-! ### A number's text -/

def lim (v : Nat) : Option Nat := if v < 9223372036854775808 then some v else none
def sizeN (W p : List UInt8) : Nat := val W * 1000000 + val p * 10 ^ (6 - p.length)
def okW (W : List UInt8) : Bool := decide (W ≠ []) && decide (W.length ≤ 13) && W.all isD && (decide (W.head? ≠ some 48) || decide (W.length = 1))
def okP (p : List UInt8) : Bool := decide (p ≠ []) && decide (p.length ≤ 6) && p.all isD
def pre (l : List UInt8) : List UInt8 := l.takeWhile (· != 46)
def hasPt (l : List UInt8) : Bool := l.contains 46
def post (l : List UInt8) : List UInt8 := l.drop ((pre l).length + 1)
/-- What a number's text is worth, if it is one: cut at its point. -/
def readN (l : List UInt8) : Option Nat := if okW (pre l) = true ∧ (hasPt l = true → okP (post l) = true) then lim (sizeN (pre l) (post l)) else none
def tailR (W : List UInt8) : List UInt8 → Option Nat
  | [] => lim (sizeN W [])
  | c :: p => if c = 46 ∧ okP p = true then lim (sizeN W p) else none
/-- The same: cut where its digits end. -/
def readR (l : List UInt8) : Option Nat :=
  if l.takeWhile isD = [] ∨ (1 < (l.takeWhile isD).length ∧ l.head? = some 48) then none else tailR (l.takeWhile isD) (l.dropWhile isD)

theorem pre_app (W r : List UInt8) (h : W.all isD = true) : pre (W ++ r) = W ++ pre r := by
  unfold pre
  refine List.takeWhile_append_of_pos fun a ha => ?_
  have := isD_iff.1 (List.all_eq_true.1 h a ha)
  rw [bne_iff_ne]
  intro e
  subst e
  exact absurd this (by decide)
theorem has_app (W r : List UInt8) (h : W.all isD = true) : hasPt (W ++ r) = hasPt r := by
  have : ¬ (46 : UInt8) ∈ W := fun ha => absurd (isD_iff.1 (List.all_eq_true.1 h 46 ha)) (by decide)
  unfold hasPt
  rw [Bool.eq_iff_iff]
  simp [this]
theorem split_run (l : List UInt8) : l = l.takeWhile isD ++ l.dropWhile isD := (List.takeWhile_append_dropWhile).symm
theorem run_all (l : List UInt8) : (l.takeWhile isD).all isD = true := by
  rw [List.all_eq_true]
  intro x hx
  induction l with
  | nil => cases hx
  | cons b r ih =>
    rw [List.takeWhile_cons] at hx
    cases h : isD b with
    | false => rw [h] at hx; simp at hx
    | true =>
      rw [h] at hx
      simp only [if_true, List.mem_cons] at hx
      rcases hx with rfl | hx
      · exact h
      · exact ih hx
theorem drop_head (l : List UInt8) (c : UInt8) (p : List UInt8) (h : l.dropWhile isD = c :: p) : isD c = false := by
  induction l with
  | nil => cases h
  | cons b r ih =>
    rw [List.dropWhile_cons] at h
    cases hb : isD b with
    | true => rw [hb] at h; exact ih h
    | false => rw [hb] at h; simp at h; rw [← h.1]; exact hb
theorem lim_big {v : Nat} (h : 9223372036854775808 ≤ v) : lim v = none := if_neg (by omega)
theorem sizeN_big (W p : List UInt8) (h : W.all isD = true) (h1 : 13 < W.length) (h0 : W.head? ≠ some 48) : lim (sizeN W p) = none := by
  refine lim_big ?_
  cases W with
  | nil => simp at h1
  | cons b r =>
    rw [List.all_cons, Bool.and_eq_true] at h
    have hv := val_ge b r h.1 (fun e => h0 (by rw [e]; rfl))
    have hp : 10 ^ 13 ≤ 10 ^ r.length := Nat.pow_le_pow_right (by decide) (by simp at h1; omega)
    unfold sizeN
    have : 10 ^ 13 = 10000000000000 := by decide
    omega
theorem read_both (W r : List UInt8) (h : W.all isD = true) (hn : W ≠ []) (hz : ¬ (1 < W.length ∧ W.head? = some 48)) (hr : ∀ c p, r = c :: p → isD c = false) :
    readN (W ++ r) = tailR W r := by
  have eo : ∀ (q : List UInt8), (if okW W = true ∧ (True → True) then lim (sizeN W q) else none) = lim (sizeN W q) := by
    intro q
    by_cases h13 : W.length ≤ 13
    · rw [if_pos]
      refine ⟨?_, id⟩
      unfold okW
      simp only [Bool.and_eq_true, Bool.or_eq_true, decide_eq_true_eq]
      refine ⟨⟨⟨hn, h13⟩, h⟩, ?_⟩
      by_cases h1 : W.length = 1
      · exact .inr h1
      · refine .inl fun e => hz ⟨?_, e⟩
        cases W with
        | nil => exact absurd rfl hn
        | cons b t => rw [List.length_cons] at h1 ⊢; omega
    · rw [sizeN_big W q h (by omega) (fun e => hz ⟨by omega, e⟩)]
      split <;> rfl
  cases r with
  | nil =>
    have e1 : pre (W ++ []) = W := by rw [pre_app W [] h]; simp [pre]
    have e2 : hasPt (W ++ []) = false := by rw [has_app W [] h]; rfl
    have e3 : post (W ++ []) = [] := by unfold post; rw [e1]; simp
    unfold readN
    rw [e1, e2, e3]
    have := eo []
    simpa [tailR] using this
  | cons c p =>
    have hc := hr c p rfl
    by_cases c46 : c = 46
    · subst c46
      have e1 : pre (W ++ 46 :: p) = W := by rw [pre_app W _ h]; simp [pre]
      have e2 : hasPt (W ++ 46 :: p) = true := by rw [has_app W _ h]; simp [hasPt]
      have e3 : post (W ++ 46 :: p) = p := by unfold post; rw [e1]; simp
      unfold readN tailR
      rw [e1, e2, e3]
      by_cases hp : okP p = true
      · have := eo p
        simpa [hp] using this
      · simp [hp]
    · have e1 : pre (W ++ c :: p) = W ++ c :: pre p := by
        rw [pre_app W _ h]
        unfold pre
        rw [List.takeWhile_cons, if_pos (bne_iff_ne.2 c46)]
      have e2 : okW (W ++ c :: pre p) = false := by
        have : (W ++ c :: pre p).all isD = false := by rw [List.all_append, List.all_cons, hc]; simp
        unfold okW
        rw [this]
        simp
      unfold readN tailR
      rw [e1, e2]
      simp [c46]
theorem read_same (l : List UInt8) : readN l = readR l := by
  have hs := split_run l
  have ha := run_all l
  have hd := fun c p => drop_head l c p
  unfold readR
  generalize l.takeWhile isD = W at *
  generalize l.dropWhile isD = r at *
  subst hs
  by_cases hn : W = []
  · subst hn
    rw [if_pos (.inl rfl)]
    have e : okW (pre r) = false := by
      cases r with
      | nil => rfl
      | cons c p =>
        have hc := hd c p rfl
        by_cases c46 : c = 46
        · subst c46; simp [pre, okW]
        · have : pre (c :: p) = c :: pre p := by unfold pre; rw [List.takeWhile_cons, if_pos (bne_iff_ne.2 c46)]
          rw [this]
          unfold okW
          rw [List.all_cons, hc]
          simp
    unfold readN
    rw [List.nil_append, e]
    simp
  · have hh : (W ++ r).head? = W.head? := by cases W with | nil => exact absurd rfl hn | cons _ _ => rfl
    rw [hh]
    by_cases hz : 1 < W.length ∧ W.head? = some 48
    · rw [if_pos (.inr hz)]
      have key : ∀ q, okW (W ++ q) = false := by
        intro q
        unfold okW
        have : (W ++ q).head? = some 48 := by
          cases W with
          | nil => exact absurd rfl hn
          | cons _ _ => exact hz.2
        rw [this]
        have : (W ++ q).length ≠ 1 := by rw [List.length_append]; omega
        rw [decide_eq_false this]
        simp
      unfold readN
      rw [pre_app W r ha, key]
      simp
    · rw [if_neg (fun h => h.elim hn hz)]
      exact read_both W r ha hn hz hd
end Go.Proofs.YtecdfnpbcabdnaaGreatDoor
end
section
namespace Go.Proofs.YtecdfnpbcabdnaaGreatDoor
open Go.Lib

theorem ofD_toNat (d : Nat) (h : d < 10) : (UInt8.ofNat (48 + d)).toNat = 48 + d := by
  rw [UInt8.toNat_ofNat']
  exact Nat.mod_eq_of_lt (by omega)
theorem ofD_is (d : Nat) (h : d < 10) : isD (UInt8.ofNat (48 + d)) = true := by rw [isD_iff, ofD_toNat d h]; omega
theorem all_snoc (a : List UInt8) (b : UInt8) : (a ++ [b]).all isD = (a.all isD && isD b) := by rw [List.all_append]; simp only [List.all_cons, List.all_nil, Bool.and_true]
theorem snoc_cases (m : List UInt8) : m = [] ∨ ∃ a b, m = a ++ [b] := by
  rcases List.eq_nil_or_concat m with h | ⟨a, b, h⟩
  · exact .inl h
  · exact .inr ⟨a, b, by rw [h, List.concat_eq_append]⟩
theorem tailR_nil (W : List UInt8) : tailR W [] = lim (sizeN W []) := rfl
theorem tailR_cons (W : List UInt8) (c : UInt8) (p : List UInt8) : tailR W (c :: p) = if c = 46 ∧ okP p = true then lim (sizeN W p) else none := rfl
theorem dec_small {u : Nat} (h : u < 10) : decDigits u = [UInt8.ofNat (48 + u)] := by rw [decDigits, dif_pos h]
theorem dec_big {u : Nat} (h : ¬ u < 10) : decDigits u = decDigits (u / 10) ++ [UInt8.ofNat (48 + u % 10)] := by rw [decDigits, dif_neg h]
theorem dec_all (u : Nat) : (decDigits u).all isD = true := by
  induction u using Nat.strongRecOn with
  | _ u ih =>
    by_cases h : u < 10
    · rw [dec_small h, List.all_cons, ofD_is u h]; rfl
    · rw [dec_big h, all_snoc, ih (u / 10) (by omega), ofD_is (u % 10) (by omega)]; rfl
theorem dec_val (u : Nat) : val (decDigits u) = u := by
  induction u using Nat.strongRecOn with
  | _ u ih =>
    by_cases h : u < 10
    · rw [dec_small h, show ∀ b, val [b] = 0 * 10 + (b.toNat - 48) from fun _ => rfl, ofD_toNat u h]; omega
    · rw [dec_big h, val_snoc, ih (u / 10) (by omega), ofD_toNat _ (by omega)]
      omega
theorem dec_ne (u : Nat) : decDigits u ≠ [] := by
  intro h
  have := decDigits_length u
  rw [h] at this
  have := nDigits_pos u
  simp at *
  omega
theorem dec_head (u : Nat) (h : u ≠ 0) : (decDigits u).head? ≠ some 48 := by
  induction u using Nat.strongRecOn with
  | _ u ih =>
    by_cases h1 : u < 10
    · rw [dec_small h1]
      simp only [List.head?_cons, ne_eq, Option.some.injEq]
      intro e
      have := congrArg UInt8.toNat e
      rw [ofD_toNat u h1] at this
      have : (48 : UInt8).toNat = 48 := rfl
      omega
    · rw [dec_big h1]
      have := ih (u / 10) (by omega) (by omega)
      have hn := dec_ne (u / 10)
      cases hd : decDigits (u / 10) with
      | nil => exact absurd hd hn
      | cons b r => rw [hd] at this; exact this
/-- k digits. -/
def digsN : Nat → Nat → List UInt8
  | 0, _ => []
  | k + 1, u => digsN k (u / 10) ++ [UInt8.ofNat (48 + u % 10)]
theorem digs_len : ∀ k u, (digsN k u).length = k
  | 0, _ => rfl
  | k + 1, u => by rw [digsN, List.length_append, digs_len k]; rfl
theorem digs_all : ∀ k u, (digsN k u).all isD = true
  | 0, _ => rfl
  | k + 1, u => by rw [digsN, all_snoc, digs_all k, ofD_is (u % 10) (by omega)]; rfl
theorem digs_val : ∀ k u, val (digsN k u) = u % 10 ^ k
  | 0, u => by simp [digsN, val, Nat.mod_one]
  | k + 1, u => by
    rw [digsN, val_snoc, digs_val k, ofD_toNat _ (by omega), Nat.pow_succ, Nat.mul_comm (10 ^ k) 10, Nat.mod_mul]
    omega
theorem digs_zero : ∀ k, digsN k 0 = List.replicate k 48
  | 0 => rfl
  | k + 1 => by
    rw [digsN, Nat.zero_div, digs_zero k, List.replicate_succ']
    rfl
theorem dec_split : ∀ k u, 10 ^ k ≤ u → decDigits u = decDigits (u / 10 ^ k) ++ digsN k u
  | 0, u, _ => by simp [digsN]
  | k + 1, u, h => by
    have hp : 1 ≤ 10 ^ k := Nat.one_le_pow _ _ (by decide)
    rw [Nat.pow_succ] at h
    rw [dec_big (by omega), dec_split k (u / 10) (by omega), digsN, List.append_assoc, Nat.pow_succ, Nat.mul_comm (10 ^ k) 10, Nat.div_div_eq_div_mul]
theorem digs_pad : ∀ k u, 1 ≤ k → u < 10 ^ k → digsN k u = List.replicate (k - nDigits u) 48 ++ decDigits u ∧ nDigits u ≤ k
  | 0, _, h, _ => absurd h (by decide)
  | k + 1, u, _, h => by
    by_cases h1 : u < 10
    · rw [dec_small h1, nDigits_small h1, digsN, show u / 10 = 0 by omega, digs_zero, Nat.mod_eq_of_lt h1]
      exact ⟨rfl, by omega⟩
    · rw [Nat.pow_succ] at h
      have hk : 1 ≤ k := by
        cases k with
        | zero => simp at h; omega
        | succ k => omega
      obtain ⟨e1, e2⟩ := digs_pad k (u / 10) hk (by omega)
      rw [dec_big h1, nDigits_big h1, digsN, e1, List.append_assoc, show k + 1 - (nDigits (u / 10) + 1) = k - nDigits (u / 10) by omega]
      exact ⟨rfl, by omega⟩
/-- At least seven digits. -/
def pad7 (u : Nat) : List UInt8 := List.replicate (7 - nDigits u) 48 ++ decDigits u
theorem pad7_eq (u : Nat) : pad7 u = decDigits (u / 1000000) ++ digsN 6 u := by
  unfold pad7
  by_cases h : u < 1000000
  · obtain ⟨e1, e2⟩ := digs_pad 6 u (by decide) (by omega)
    rw [e1, show u / 1000000 = 0 by omega, dec_small (by decide : 0 < 10), show 7 - nDigits u = (6 - nDigits u) + 1 by omega, List.replicate_succ]
    rfl
  · have e := dec_split 6 u (by omega)
    have hl := decDigits_length u
    have hp := nDigits_pos (u / 1000000)
    rw [e, List.length_append, digs_len, decDigits_length, show (10 : Nat) ^ 6 = 1000000 by decide] at hl
    rw [show 7 - nDigits u = 0 by omega, List.replicate_zero, List.nil_append]
    exact e
theorem one_digs (r : Nat) (h : r < 1000000) : decDigits (1000000 + r) = 49 :: digsN 6 r := by
  have e := dec_split 6 (1000000 + r) (by omega)
  rw [e, show (1000000 + r) / 10 ^ 6 = 1 by omega, dec_small (by decide : 1 < 10)]
  have : digsN 6 (1000000 + r) = digsN 6 r := by
    simp only [digsN, List.nil_append]
    have f : ∀ d : Nat, d = 1 ∨ d = 10 ∨ d = 100 ∨ d = 1000 ∨ d = 10000 ∨ d = 100000 → (1000000 + r) / d % 10 = r / d % 10 := by
      rintro d (rfl | rfl | rfl | rfl | rfl | rfl) <;> omega
    simp only [Nat.div_div_eq_div_mul]
    rw [f 10 (by omega), f (10 * 10) (by omega), f (10 * 10 * 10) (by omega), f (10 * 10 * 10 * 10) (by omega), f (10 * 10 * 10 * 10 * 10) (by omega), show (1000000 + r) % 10 = r % 10 by omega]
  rw [this]
  rfl
/-- Without the zeros at the end. -/
def trimZ (l : List UInt8) : List UInt8 := (l.reverse.dropWhile (· == 48)).reverse
/-- What stands behind the point. -/
def plc (u : Nat) : List UInt8 := trimZ (digsN 6 u)
/-- The text of u micro-units. -/
def textN (u : Nat) : List UInt8 := if u % 1000000 = 0 then decDigits (u / 1000000) else decDigits (u / 1000000) ++ 46 :: plc u
theorem trim_back (l : List UInt8) : ∃ k, l = trimZ l ++ List.replicate k 48 ∧ (∀ b, (trimZ l).getLast? = some b → b ≠ 48) := by
  unfold trimZ
  have key : ∀ m : List UInt8, ∃ k, m = List.replicate k 48 ++ m.dropWhile (· == 48) ∧ ∀ b, (m.dropWhile (· == 48)).head? = some b → b ≠ 48 := by
    intro m
    induction m with
    | nil => exact ⟨0, rfl, fun b hb => by simp at hb⟩
    | cons b r ih =>
      obtain ⟨k, e, h⟩ := ih
      by_cases hb : b = 48
      · subst hb
        refine ⟨k + 1, ?_, by simpa using h⟩
        rw [List.dropWhile_cons, if_pos (by rfl), List.replicate_succ, List.cons_append, ← e]
      · refine ⟨0, ?_, fun c hc => ?_⟩
        · rw [List.dropWhile_cons, if_neg (by simpa using hb)]; rfl
        · rw [List.dropWhile_cons, if_neg (by simpa using hb)] at hc
          simp at hc
          rw [← hc]; exact hb
  obtain ⟨k, e, h⟩ := key l.reverse
  refine ⟨k, ?_, fun b hb => h b (by rwa [List.getLast?_reverse] at hb)⟩
  have := congrArg List.reverse e
  rw [List.reverse_append, List.reverse_reverse, List.reverse_replicate] at this
  exact this
theorem trim_len (l : List UInt8) : (trimZ l).length ≤ l.length := by
  obtain ⟨k, e, _⟩ := trim_back l
  have := congrArg List.length e
  rw [List.length_append] at this
  omega
theorem trim_all (l : List UInt8) (h : l.all isD = true) : (trimZ l).all isD = true := by
  obtain ⟨k, e, _⟩ := trim_back l
  rw [e, List.all_append, Bool.and_eq_true] at h
  exact h.1
theorem trim_val (l : List UInt8) : val (trimZ l) * 10 ^ (l.length - (trimZ l).length) = val l := by
  obtain ⟨k, e, _⟩ := trim_back l
  have hk := congrArg List.length e
  rw [List.length_append, List.length_replicate] at hk
  have := val_pad (trimZ l) k
  rw [← e] at this
  rw [this, show l.length - (trimZ l).length = k by omega]
theorem plc_len (u : Nat) : (plc u).length ≤ 6 := by have := trim_len (digsN 6 u); rw [digs_len] at this; exact this
theorem plc_all (u : Nat) : (plc u).all isD = true := trim_all _ (digs_all 6 u)
theorem plc_val (u : Nat) : val (plc u) * 10 ^ (6 - (plc u).length) = u % 1000000 := by
  have := trim_val (digsN 6 u)
  rw [digs_len, digs_val] at this
  exact this
theorem plc_nil (u : Nat) : plc u = [] ↔ u % 1000000 = 0 := by
  have hv := plc_val u
  constructor
  · intro h; rw [h] at hv; simpa [val] using hv.symm
  · intro h
    obtain ⟨k, e, hl⟩ := trim_back (digsN 6 u)
    change digsN 6 u = plc u ++ _ at e
    change ∀ b, (plc u).getLast? = some b → b ≠ 48 at hl
    rw [h] at hv
    have h0 : val (plc u) = 0 := by
      have : 0 < 10 ^ (6 - (plc u).length) := Nat.pow_pos (by decide)
      rcases Nat.mul_eq_zero.1 hv with h | h
      · exact h
      · omega
    have ha := plc_all u
    generalize plc u = m at *
    rcases snoc_cases m with rfl | ⟨a, b, rfl⟩
    · rfl
    · exfalso
      rw [val_snoc] at h0
      rw [all_snoc, Bool.and_eq_true] at ha
      have hb := isD_iff.1 ha.2
      refine hl b (by simp) ?_
      apply UInt8.toNat_inj.1
      show b.toNat = 48
      omega
theorem dec_zero1 (u : Nat) : ¬ (1 < (decDigits u).length ∧ (decDigits u).head? = some 48) := by
  rintro ⟨h1, h2⟩
  by_cases h : u = 0
  · subst h; rw [dec_small (by decide)] at h1; simp at h1
  · exact dec_head u h h2
theorem read_text (u : Nat) : readN (textN u) = lim u := by
  unfold textN
  by_cases h : u % 1000000 = 0
  · rw [if_pos h]
    have := read_both (decDigits (u / 1000000)) [] (dec_all _) (dec_ne _) (dec_zero1 _) (fun c p h => by cases h)
    rw [List.append_nil] at this
    rw [this]
    rw [tailR_nil]
    unfold sizeN
    rw [dec_val, val_nil]
    congr 1
    rw [Nat.zero_mul]
    omega
  · rw [if_neg h, read_both (decDigits (u / 1000000)) (46 :: plc u) (dec_all _) (dec_ne _) (dec_zero1 _) (fun c p h => by cases h; rfl)]
    have hp : okP (plc u) = true := by
      unfold okP
      simp only [Bool.and_eq_true, decide_eq_true_eq]
      exact ⟨⟨fun e => h ((plc_nil u).1 e), plc_len u⟩, plc_all u⟩
    rw [tailR_cons, if_pos ⟨rfl, hp⟩]
    unfold sizeN
    rw [dec_val, plc_val]
    congr 1
    omega
/-- With a zero more at the end. -/
theorem read_zero (u : Nat) (h : u % 1000000 ≠ 0) : readN (textN u ++ [48]) = if (plc u).length = 6 then none else lim u := by
  unfold textN
  rw [if_neg h, List.append_assoc, List.cons_append, read_both (decDigits (u / 1000000)) (46 :: (plc u ++ [48])) (dec_all _) (dec_ne _) (dec_zero1 _) (fun c p h => by cases h; rfl)]
  have hl := plc_len u
  rw [tailR_cons]
  by_cases h6 : (plc u).length = 6
  · have : okP (plc u ++ [48]) = false := by
      unfold okP
      rw [List.length_append, h6]
      simp
    rw [if_pos h6, this]
    simp
  · have hp : okP (plc u ++ [48]) = true := by
      unfold okP
      rw [List.length_append, List.all_append, plc_all]
      simp
      exact ⟨by omega, by decide⟩
    rw [if_neg h6, if_pos ⟨rfl, hp⟩]
    unfold sizeN
    have hv := plc_val u
    have e : val (plc u ++ [48]) * 10 ^ (6 - (plc u ++ [48]).length) = u % 1000000 := by
      rw [val_snoc, List.length_append, ← hv, show 6 - (plc u).length = (6 - ((plc u).length + [(48 : UInt8)].length)) + 1 by simp; omega, Nat.pow_succ]
      show (val (plc u) * 10 + 0) * _ = _
      rw [Nat.add_zero, Nat.mul_assoc, Nat.mul_comm 10]
    rw [dec_val, e]
    congr 1
    omega
theorem nD_le (W : List UInt8) (h : W.all isD = true) (hn : W ≠ []) : nDigits (val W) ≤ W.length := by
  have hl : 1 ≤ W.length := by cases W with | nil => exact absurd rfl hn | cons _ _ => simp
  exact (digs_pad W.length (val W) hl (val_lt W h)).2
theorem all_ends (a : List UInt8) : val (trimZ a) = 0 → (trimZ a).all isD = true → trimZ a = [] := by
  intro h0 ha
  obtain ⟨_, _, hl⟩ := trim_back a
  generalize trimZ a = m at *
  rcases snoc_cases m with rfl | ⟨t, b, rfl⟩
  · rfl
  · exfalso
    rw [val_snoc] at h0
    rw [all_snoc, Bool.and_eq_true] at ha
    have hb := isD_iff.1 ha.2
    refine hl b (by simp) ?_
    apply UInt8.toNat_inj.1
    show b.toNat = 48
    omega
/-- What was read is told no longer than it stood. -/
theorem text_short (l : List UInt8) (u : Nat) (h : readN l = some u) : (textN u).length ≤ l.length := by
  rw [read_same] at h
  unfold readR at h
  by_cases hc : l.takeWhile isD = [] ∨ (1 < (l.takeWhile isD).length ∧ l.head? = some 48)
  · rw [if_pos hc] at h; cases h
  rw [if_neg hc] at h
  have hl : l.length = (l.takeWhile isD).length + (l.dropWhile isD).length := by
    have := congrArg List.length (split_run l)
    rwa [List.length_append] at this
  have ha := run_all l
  have hn : l.takeWhile isD ≠ [] := fun e => hc (.inl e)
  have hD := nD_le _ ha hn
  generalize l.takeWhile isD = W at *
  generalize l.dropWhile isD = r at *
  have hlim : ∀ v, lim v = some u → u = v := by
    intro v hv
    unfold lim at hv
    split at hv
    · exact (Option.some.inj hv).symm
    · cases hv
  cases r with
  | nil =>
    rw [tailR_nil] at h
    have e := hlim _ h
    unfold sizeN at e
    rw [val_nil, Nat.zero_mul] at e
    unfold textN
    rw [if_pos (by omega), decDigits_length, show u / 1000000 = val W by omega]
    simp at hl
    omega
  | cons c p =>
    rw [tailR_cons] at h
    by_cases hp : c = 46 ∧ okP p = true
    · rw [if_pos hp] at h
      have e := hlim _ h
      obtain ⟨_, hp⟩ := hp
      unfold okP at hp
      simp only [Bool.and_eq_true, decide_eq_true_eq] at hp
      obtain ⟨⟨_, p6⟩, pa⟩ := hp
      unfold sizeN at e
      have hv : val p * 10 ^ (6 - p.length) < 1000000 := by
        have := val_lt p pa
        have e6 : 10 ^ p.length * 10 ^ (6 - p.length) = 1000000 := by rw [← Nat.pow_add, show p.length + (6 - p.length) = 6 by omega]
        have : val p * 10 ^ (6 - p.length) < 10 ^ p.length * 10 ^ (6 - p.length) := Nat.mul_lt_mul_of_pos_right this (Nat.pow_pos (by decide))
        omega
      have eW : u / 1000000 = val W := by omega
      have eP : u % 1000000 = val p * 10 ^ (6 - p.length) := by omega
      rw [List.length_cons] at hl
      unfold textN
      by_cases h0 : u % 1000000 = 0
      · rw [if_pos h0, decDigits_length, eW]; omega
      · rw [if_neg h0, List.length_append, List.length_cons, decDigits_length, eW]
        have hq : (plc u).length ≤ p.length := by
          have e1 : digsN 6 u = p ++ List.replicate (6 - p.length) 48 := by
            have w1 : val (p ++ List.replicate (6 - p.length) 48) = u % 1000000 := by rw [val_pad, eP]
            have w2 : (p ++ List.replicate (6 - p.length) 48).length = 6 := by rw [List.length_append, List.length_replicate]; omega
            have w3 : (p ++ List.replicate (6 - p.length) 48).all isD = true := by
              rw [List.all_append, pa]
              simp [List.all_replicate]
              exact .inr (by decide)
            generalize p ++ List.replicate (6 - p.length) 48 = q at *
            have uniq : ∀ k (q : List UInt8) u, q.length = k → q.all isD = true → val q = u % 10 ^ k → digsN k u = q := by
              intro k
              induction k with
              | zero => intro q u hq _ _; cases q with | nil => rfl | cons _ _ => simp at hq
              | succ k ih =>
                intro q u hq hqa hqv
                rcases snoc_cases q with rfl | ⟨a, b, rfl⟩
                · simp at hq
                · rw [List.length_append] at hq
                  rw [all_snoc, Bool.and_eq_true] at hqa
                  have hb := isD_iff.1 hqa.2
                  rw [val_snoc, Nat.pow_succ, Nat.mul_comm (10 ^ k) 10, Nat.mod_mul] at hqv
                  rw [digsN, ih a (u / 10) (by simpa using hq) hqa.1 (by omega)]
                  congr 2
                  apply UInt8.toNat_inj.1
                  rw [ofD_toNat _ (by omega)]
                  omega
            exact uniq 6 q u w2 w3 w1
          unfold plc
          rw [e1]
          unfold trimZ
          rw [List.reverse_append, List.reverse_replicate]
          have dw : ∀ k (m : List UInt8), ((List.replicate k 48 ++ m).dropWhile (· == 48)).length ≤ m.length := by
            intro k m
            induction k with
            | zero =>
              rw [List.replicate_zero, List.nil_append]
              exact List.Sublist.length_le (List.dropWhile_sublist _)
            | succ k ih => rw [List.replicate_succ, List.cons_append, List.dropWhile_cons, if_pos (by rfl)]; exact ih
          have := dw (6 - p.length) p.reverse
          rw [List.length_reverse] at this ⊢
          exact this
        omega
    · rw [if_neg hp] at h; cases h
end Go.Proofs.YtecdfnpbcabdnaaGreatDoor
end
section
namespace Go.Proofs.YtecdfnpbcabdnaaGreatDoor
open Go.Lib

/-- The seconds of a part, by its place; its letter. -/
def wrt : Nat → Nat
  | 0 => 86400
  | 1 => 3600
  | 2 => 60
  | 3 => 1
  | _ => 0
def ltr : Nat → Nat
  | 0 => 100
  | 1 => 104
  | 2 => 109
  | 3 => 115
  | _ => 0
/-- The place of the part that the letter names, from a place on. -/
def part (c nx : Nat) : Option Nat :=
  if nx ≤ 0 ∧ c = 100 then some 0 else if nx ≤ 1 ∧ c = 104 then some 1 else if nx ≤ 2 ∧ c = 109 then some 2 else if nx ≤ 3 ∧ c = 115 then some 3 else none
theorem part_four (c nx : Nat) (h : 4 ≤ nx) : part c nx = none := by unfold part; rw [if_neg (by omega), if_neg (by omega), if_neg (by omega), if_neg (by omega)]
theorem four {n : Nat} (h : n < 4) : n = 0 ∨ n = 1 ∨ n = 2 ∨ n = 3 := by omega
theorem part_hit (nx m : Nat) (h : nx < 4) (hm : m ≤ nx) : part (ltr nx) m = some nx := by
  rcases four h with rfl | rfl | rfl | rfl <;> simp [part, ltr] <;> omega
theorem part_miss (c nx : Nat) (h : nx < 4) (hc : c ≠ ltr nx) : part c nx = part c (nx + 1) := by
  rcases four h with rfl | rfl | rfl | rfl <;> (simp only [ltr] at hc; simp [part, hc])
theorem part_some {c nx j : Nat} (h : part c nx = some j) : nx ≤ j ∧ j < 4 ∧ c = ltr j := by
  unfold part at h
  split at h
  · cases h; exact ⟨by omega, by decide, by simp only [ltr]; omega⟩
  · split at h
    · cases h; exact ⟨by omega, by decide, by simp only [ltr]; omega⟩
    · split at h
      · cases h; exact ⟨by omega, by decide, by simp only [ltr]; omega⟩
      · split at h
        · cases h; exact ⟨by omega, by decide, by simp only [ltr]; omega⟩
        · cases h
theorem wrt_le (j : Nat) : wrt j ≤ 86400 := by unfold wrt; split <;> decide
/-- What is read behind a sum, a count that is under way, and the next part. -/
def sp (sum cnt nx : Nat) : List UInt8 → Option Nat
  | [] => if cnt = 0 ∧ 1 ≤ sum ∧ sum ≤ 604800 then some sum else none
  | b :: r =>
    if isD b = true then (if vstep cnt b = 0 ∨ 999999 < vstep cnt b then none else sp sum (vstep cnt b) nx r)
    else match part b.toNat nx with
      | none => none
      | some j => if cnt = 0 then none else sp (sum + cnt * wrt j) 0 (j + 1) r
def spanN (l : List UInt8) : Option Nat := sp 0 0 0 l
theorem sp_nil (sum cnt nx : Nat) : sp sum cnt nx [] = if cnt = 0 ∧ 1 ≤ sum ∧ sum ≤ 604800 then some sum else none := rfl
theorem sp_dig (sum cnt nx : Nat) (b : UInt8) (r : List UInt8) (h : isD b = true) : sp sum cnt nx (b :: r) = if vstep cnt b = 0 ∨ 999999 < vstep cnt b then none else sp sum (vstep cnt b) nx r := by
  rw [sp, if_pos h]
theorem sp_no (sum cnt nx : Nat) (b : UInt8) (r : List UInt8) (h : isD b = false) (hp : part b.toNat nx = none ∨ cnt = 0) : sp sum cnt nx (b :: r) = none := by
  rw [sp, if_neg (by simp [h])]
  rcases hp with hp | hp
  · rw [hp]
  · split
    · rfl
    · rw [if_pos hp]
theorem sp_part (sum cnt nx j : Nat) (b : UInt8) (r : List UInt8) (h : isD b = false) (hp : part b.toNat nx = some j) (hc : cnt ≠ 0) : sp sum cnt nx (b :: r) = sp (sum + cnt * wrt j) 0 (j + 1) r := by
  rw [sp, if_neg (by simp [h]), hp]
  simp only
  rw [if_neg hc]
theorem sp_more (sum nx : Nat) (r : List UInt8) : ∀ (W : List UInt8) (cnt : Nat), W.all isD = true → 1 ≤ cnt → cnt ≤ 999999 →
    sp sum cnt nx (W ++ r) = if W.foldl vstep cnt ≤ 999999 then sp sum (W.foldl vstep cnt) nx r else none
  | [], cnt, _, _, h2 => by rw [List.nil_append, List.foldl_nil, if_pos h2]
  | b :: t, cnt, ha, h1, _ => by
    rw [List.all_cons, Bool.and_eq_true] at ha
    rw [List.cons_append, sp_dig _ _ _ _ _ ha.1, List.foldl_cons]
    have h0 : 1 ≤ vstep cnt b := by unfold vstep; omega
    by_cases h : 999999 < vstep cnt b
    · rw [if_pos (.inr h), if_neg]
      rw [foldl_val]
      have : 1 ≤ 10 ^ t.length := Nat.one_le_pow _ _ (by decide)
      have : vstep cnt b * 1 ≤ vstep cnt b * 10 ^ t.length := Nat.mul_le_mul_left _ this
      omega
    · rw [if_neg (by omega)]
      exact sp_more sum nx r t (vstep cnt b) ha.2 h0 (by omega)
/-- A run of digits is one count. -/
theorem sp_run (sum nx : Nat) (W r : List UInt8) (ha : W.all isD = true) (hn : W ≠ []) :
    sp sum 0 nx (W ++ r) = if W.head? = some 48 ∨ 6 < W.length then none else sp sum (val W) nx r := by
  cases W with
  | nil => exact absurd rfl hn
  | cons b t =>
    have ha' := ha
    rw [List.all_cons, Bool.and_eq_true] at ha
    have hb := isD_iff.1 ha.1
    rw [List.cons_append, sp_dig _ _ _ _ _ ha.1]
    have e0 : vstep 0 b = b.toNat - 48 := by unfold vstep; omega
    by_cases h0 : b = 48
    · subst h0
      rw [if_pos (.inl rfl), if_pos (.inl rfl)]
    · have hb0 : b.toNat ≠ 48 := fun e => h0 (UInt8.toNat_inj.1 e)
      rw [if_neg (by omega), sp_more sum nx r t (vstep 0 b) ha.2 (by omega) (by omega)]
      have ev : t.foldl vstep (vstep 0 b) = val (b :: t) := rfl
      rw [ev]
      have hge := val_ge b t ha.1 h0
      have hlt := val_lt (b :: t) ha'
      by_cases h6 : 6 < (b :: t).length
      · rw [if_pos (c := _ ∨ _) (.inr h6), if_neg]
        have : 10 ^ 6 ≤ 10 ^ t.length := Nat.pow_le_pow_right (by decide) (by rw [List.length_cons] at h6; omega)
        have : 10 ^ 6 = 1000000 := by decide
        omega
      · rw [if_neg (c := _ ∨ _), if_pos]
        · have : 10 ^ (b :: t).length ≤ 10 ^ 6 := Nat.pow_le_pow_right (by decide) (by omega)
          have : 10 ^ 6 = 1000000 := by decide
          omega
        · rintro (h | h)
          · exact h0 (Option.some.inj h)
          · exact h6 h
theorem val_pos (W : List UInt8) (ha : W.all isD = true) (hn : W ≠ []) (h0 : W.head? ≠ some 48) : val W ≠ 0 := by
  cases W with
  | nil => exact absurd rfl hn
  | cons b t =>
    rw [List.all_cons, Bool.and_eq_true] at ha
    have := val_ge b t ha.1 (fun e => h0 (by rw [e]; rfl))
    have : 1 ≤ 10 ^ t.length := Nat.one_le_pow _ _ (by decide)
    omega
theorem val_six (W : List UInt8) (ha : W.all isD = true) (h : W.length ≤ 6) : val W ≤ 999999 := by
  have := val_lt W ha
  have : 10 ^ W.length ≤ 10 ^ 6 := Nat.pow_le_pow_right (by decide) h
  have : 10 ^ 6 = 1000000 := by decide
  omega
theorem ltr_no (j : Nat) (h : j < 4) : isD (UInt8.ofNat (ltr j)) = false ∧ (UInt8.ofNat (ltr j)).toNat = ltr j := by
  rcases four h with rfl | rfl | rfl | rfl <;> decide

/-! ### Told -/

def prt (c : Nat) (l : UInt8) : List UInt8 := if c = 0 then [] else decDigits c ++ [l]
def spanT (n : Nat) : List UInt8 := prt (n / 86400) 100 ++ prt (n % 86400 / 3600) 104 ++ prt (n % 3600 / 60) 109 ++ prt (n % 60) 115
theorem nD6 {c : Nat} (h : c < 1000000) : nDigits c ≤ 6 := (digs_pad 6 c (by decide) (by omega)).2
theorem sp_prt (sum nx c j : Nat) (r : List UInt8) (hj : j < 4) (hx : nx ≤ j) (hc : c < 1000000) :
    ∃ nx', nx' ≤ j + 1 ∧ sp sum 0 nx (prt c (UInt8.ofNat (ltr j)) ++ r) = sp (sum + c * wrt j) 0 nx' r := by
  unfold prt
  by_cases h : c = 0
  · rw [if_pos h, h]
    exact ⟨nx, by omega, by rw [List.nil_append]; simp⟩
  · rw [if_neg h, List.append_assoc, sp_run sum nx _ _ (dec_all c) (dec_ne c), decDigits_length, dec_val, if_neg]
    · obtain ⟨l1, l2⟩ := ltr_no j hj
      refine ⟨j + 1, Nat.le_refl _, ?_⟩
      rw [List.singleton_append, sp_part sum c nx j _ r l1 (by rw [l2]; exact part_hit j nx hj hx) h]
    · rintro (h1 | h1)
      · exact dec_head c h h1
      · have := nD6 hc
        omega
theorem span_back (n : Nat) (h1 : 1 ≤ n) (h2 : n ≤ 604800) : spanN (spanT n) = some n := by
  unfold spanN spanT
  rw [List.append_assoc, List.append_assoc]
  obtain ⟨a, ha, e1⟩ := sp_prt 0 0 (n / 86400) 0 (prt (n % 86400 / 3600) 104 ++ (prt (n % 3600 / 60) 109 ++ prt (n % 60) 115)) (by decide) (by decide) (by omega)
  obtain ⟨b, hb, e2⟩ := sp_prt (0 + n / 86400 * wrt 0) a (n % 86400 / 3600) 1 (prt (n % 3600 / 60) 109 ++ prt (n % 60) 115) (by decide) ha (by omega)
  obtain ⟨c, hc, e3⟩ := sp_prt (0 + n / 86400 * wrt 0 + n % 86400 / 3600 * wrt 1) b (n % 3600 / 60) 2 (prt (n % 60) 115) (by decide) hb (by omega)
  obtain ⟨d, _, e4⟩ := sp_prt (0 + n / 86400 * wrt 0 + n % 86400 / 3600 * wrt 1 + n % 3600 / 60 * wrt 2) c (n % 60) 3 [] (by decide) hc (by omega)
  rw [List.append_nil] at e4
  refine e1.trans (e2.trans (e3.trans (e4.trans ?_)))
  rw [sp_nil]
  simp only [wrt]
  rw [show 0 + n / 86400 * 86400 + n % 86400 / 3600 * 3600 + n % 3600 / 60 * 60 + n % 60 * 1 = n by omega, if_pos ⟨trivial, h1, h2⟩]
theorem sp_le {sum cnt nx n : Nat} {l : List UInt8} (h : sp sum cnt nx l = some n) : 1 ≤ n ∧ n ≤ 604800 := by
  induction l generalizing sum cnt nx with
  | nil =>
    rw [sp_nil] at h
    split at h
    · cases h; omega
    · cases h
  | cons b r ih =>
    rw [sp] at h
    split at h
    · split at h
      · cases h
      · exact ih h
    · split at h
      · cases h
      · split at h
        · cases h
        · exact ih h
theorem prt_len (c : Nat) (l : UInt8) (h : c < 1000000) : (prt c l).length ≤ 7 := by
  unfold prt
  split
  · simp
  · rw [List.length_append, decDigits_length]; have := nD6 h; simp; omega
end Go.Proofs.YtecdfnpbcabdnaaGreatDoor
end

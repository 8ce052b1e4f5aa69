/- Numbers as lists of sixteen-bit digits, the lowest first: plain lists, no program. -/
import Derived.KernelRfl
namespace Go.Proofs.Ytccgbkafcbfcgaa

/-- The number that a list of digits says. -/
def val : List Int → Int
  | [] => 0
  | d :: r => d + 65536 * val r
/-- Each is a digit. -/
def Dgs (l : List Int) : Prop := ∀ d ∈ l, 0 ≤ d ∧ d < 65536
/-- No zero at the high end. -/
def Trim (l : List Int) : Prop := ∀ k, l.length = k + 1 → l.getD k 0 ≠ 0
def pw (k : Nat) : Int := 65536 ^ k

theorem pw_succ (k : Nat) : pw (k + 1) = 65536 * pw k := by unfold pw; rw [Int.pow_succ, Int.mul_comm]
theorem pw_pos (k : Nat) : 0 < pw k := Int.pow_pos (by decide)
theorem pw_zero : pw 0 = 1 := rfl
theorem pw_mono {a b : Nat} (h : a ≤ b) : pw a ≤ pw b := by
  induction h with
  | refl => exact Int.le_refl _
  | @step m _ ih => have := pw_succ m; have := pw_pos m; have e : pw (m + 1) = pw (Nat.succ m) := rfl; omega
theorem pw4 : pw 4 = 18446744073709551616 := by decide
theorem val_nil : val [] = 0 := rfl
theorem val_append (a b : List Int) : val (a ++ b) = val a + pw a.length * val b := by
  induction a with
  | nil => simp [val, pw]
  | cons d r ih =>
    show d + 65536 * val (r ++ b) = d + 65536 * val r + pw (r.length + 1) * val b
    rw [ih, pw_succ, Int.mul_add, Int.mul_assoc, Int.add_assoc]
theorem val_snoc (l : List Int) (d : Int) : val (l ++ [d]) = val l + pw l.length * d := by
  rw [val_append]; simp [val]
theorem getD_at (l : List Int) (k : Nat) (h : k < l.length) : l.getD k 0 = l[k] := by simp [List.getD, h]
theorem getD_past (l : List Int) (k : Nat) (h : l.length ≤ k) : l.getD k 0 = 0 := by simp [List.getD, h]
theorem getD_mem (l : List Int) (k : Nat) (h : k < l.length) : l.getD k 0 ∈ l := by
  rw [getD_at l k h]; exact List.getElem_mem h
theorem getD_dig (l : List Int) (h : Dgs l) (k : Nat) : 0 ≤ l.getD k 0 ∧ l.getD k 0 < 65536 := by
  by_cases hk : k < l.length
  · exact h _ (getD_mem l k hk)
  · rw [getD_past l k (by omega)]; decide
theorem take_snoc (l : List Int) (k : Nat) (h : k < l.length) : l.take (k + 1) = l.take k ++ [l.getD k 0] := by
  rw [List.take_succ_eq_append_getElem h, getD_at l k h]
theorem val_take_succ (l : List Int) (k : Nat) : val (l.take (k + 1)) = val (l.take k) + pw k * l.getD k 0 := by
  by_cases hk : k < l.length
  · rw [take_snoc l k hk, val_snoc, List.length_take, Nat.min_eq_left (by omega)]
  · rw [List.take_of_length_le (by omega), List.take_of_length_le (by omega), getD_past l k (by omega), Int.mul_zero, Int.add_zero]
theorem dgs_snoc {l : List Int} {d : Int} (h : Dgs l) (d0 : 0 ≤ d) (d1 : d < 65536) : Dgs (l ++ [d]) := by
  intro x hx
  rcases List.mem_append.1 hx with hx | hx
  · exact h x hx
  · simp at hx; subst hx; exact ⟨d0, d1⟩
theorem dgs_take {l : List Int} (h : Dgs l) (k : Nat) : Dgs (l.take k) := fun d hd => h d (List.mem_of_mem_take hd)
theorem val_bd (l : List Int) (h : Dgs l) : 0 ≤ val l ∧ val l < pw l.length := by
  induction l with
  | nil => exact ⟨by decide, by decide⟩
  | cons d r ih =>
    obtain ⟨i0, i1⟩ := ih (fun x hx => h x (List.mem_cons_of_mem _ hx))
    obtain ⟨d0, d1⟩ := h d (List.mem_cons_self ..)
    show 0 ≤ d + 65536 * val r ∧ d + 65536 * val r < pw (r.length + 1)
    rw [pw_succ]
    omega
/-- Zeros at the high end say nothing. -/
theorem val_take_zeros (l : List Int) (m : Nat) (h : ∀ j, m ≤ j → l.getD j 0 = 0) : val (l.take m) = val l := by
  have key : ∀ k, val (l.take (m + k)) = val (l.take m) := by
    intro k
    induction k with
    | zero => rfl
    | succ k ih => rw [← Nat.add_assoc, val_take_succ, h _ (by omega), ih, Int.mul_zero, Int.add_zero]
  rw [← key l.length, List.take_of_length_le (by omega)]
theorem val_low (l : List Int) (h : Dgs l) (ht : Trim l) (k : Nat) (hk : l.length = k + 1) : pw k ≤ val l := by
  have h1 := val_take_succ l k
  rw [List.take_of_length_le (by omega)] at h1
  have h2 := (val_bd _ (dgs_take h k)).1
  have h3 := ht k hk
  have h4 := (getD_dig l h k).1
  have h5 : pw k * 1 ≤ pw k * l.getD k 0 := Int.mul_le_mul_of_nonneg_left (by omega) (Int.le_of_lt (pw_pos k))
  omega
theorem len_le (l : List Int) (h : Dgs l) (ht : Trim l) (k : Nat) (hv : val l < pw k) : l.length ≤ k := by
  by_cases hl : l.length = 0
  · omega
  · have h1 := val_low l h ht (l.length - 1) (by omega)
    by_cases hk : l.length ≤ k
    · exact hk
    · have := pw_mono (show k ≤ l.length - 1 by omega)
      omega
theorem val_zero (l : List Int) (h : Dgs l) (ht : Trim l) (hv : val l = 0) : l = [] := by
  have := len_le l h ht 0 (by rw [hv]; decide)
  exact List.length_eq_zero_iff.1 (by omega)
theorem trim_nil : Trim [] := fun k hk => by simp at hk
theorem dgs_nil : Dgs [] := fun d hd => by simp at hd
theorem trim_take {l : List Int} {m : Nat} (h : m = 0 ∨ l.getD (m - 1) 0 ≠ 0) (hm : m ≤ l.length) : Trim (l.take m) := by
  intro k hk
  rw [List.length_take, Nat.min_eq_left hm] at hk
  rcases h with h | h
  · omega
  · subst hk
    rw [List.getD_eq_getElem?_getD, List.getElem?_take, if_pos (by omega), ← List.getD_eq_getElem?_getD]
    simpa using h
end Go.Proofs.Ytccgbkafcbfcgaa

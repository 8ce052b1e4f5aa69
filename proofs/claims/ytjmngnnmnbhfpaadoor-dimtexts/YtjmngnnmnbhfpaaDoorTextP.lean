/- What a dimension is told by (no program is looked at here). -/
import Derived.Test.YtjmngnnmnbhfpaaDoorDimH
import Derived.Lib.Join
import Derived.Lib.ItoaLen
namespace Go.Proofs.YtjmngnnmnbhfpaaDoor

def D5.ex (x : D5) : Nat → Int
  | 0 => x.a
  | 1 => x.b
  | 2 => x.c
  | 3 => x.d
  | _ => x.e
theorem D5.Fits.ex {x : D5} (h : x.Fits) (k : Nat) : -9223372036854775808 ≤ x.ex k ∧ x.ex k ≤ 9223372036854775807 := by
  have := h.a0; have := h.a1; have := h.b0; have := h.b1; have := h.c0; have := h.c1; have := h.d0; have := h.d1; have := h.e0; have := h.e1
  unfold D5.ex
  split <;> omega
def baseN : Nat → List UInt8
  | 0 => [115]
  | 1 => [114, 101, 113]
  | 2 => [66]
  | 3 => [114, 101, 112]
  | _ => [99, 111, 114, 101]
theorem baseN_len (k : Nat) : 1 ≤ (baseN k).length ∧ (baseN k).length ≤ 4 := by unfold baseN; split <;> decide
def itemS (nm : List UInt8) (n : Int) : List UInt8 := if n = 1 then nm else nm ++ 94 :: Lib.itoa n
theorem itemS_len (nm : List UInt8) (n : Int) (h1 : 1 ≤ nm.length) (h4 : nm.length ≤ 4) (n0 : -9223372036854775808 ≤ n) (n1 : n ≤ 9223372036854775807) : 1 ≤ (itemS nm n).length ∧ (itemS nm n).length ≤ 26 := by
  unfold itemS
  split
  · omega
  · have := Lib.itoa_length_le n n0 n1
    rw [List.length_append, List.length_cons]
    omega
/-- What the first k exponents are told by, one behind the other. -/
def items (x : D5) : Nat → List (List UInt8)
  | 0 => []
  | k + 1 => items x k ++ (if x.ex k = 0 then [] else [itemS (baseN k) (x.ex k)])
theorem items_zero (x : D5) (k : Nat) (h : x.ex k = 0) : items x (k + 1) = items x k := by simp [items, h]
theorem items_one (x : D5) (k : Nat) (h : ¬ x.ex k = 0) : items x (k + 1) = items x k ++ [itemS (baseN k) (x.ex k)] := by simp [items, h]
theorem items_bd (x : D5) (hx : x.Fits) : ∀ k, (items x k).length ≤ k ∧ (∀ y ∈ items x k, 1 ≤ y.length ∧ y.length ≤ 26)
  | 0 => ⟨Nat.le_refl _, fun y hy => by cases hy⟩
  | k + 1 => by
    obtain ⟨h1, h2⟩ := items_bd x hx k
    by_cases h : x.ex k = 0
    · rw [items_zero x k h]; exact ⟨by omega, h2⟩
    · rw [items_one x k h]
      refine ⟨by rw [List.length_append]; simp; exact h1, fun y hy => ?_⟩
      rcases List.mem_append.1 hy with hy | hy
      · exact h2 y hy
      · rw [List.mem_singleton] at hy
        subst hy
        exact itemS_len _ _ (baseN_len k).1 (baseN_len k).2 (hx.ex k).1 (hx.ex k).2
theorem lens_le : ∀ (l : List (List UInt8)), (∀ y ∈ l, y.length ≤ 26) → Lib.lens l ≤ 26 * l.length
  | [], _ => by simp [Lib.lens]
  | y :: r, h => by
    have := lens_le r fun z hz => h z (by simp [hz])
    have := h y (by simp)
    simp only [Lib.lens, List.map_cons, List.sum_cons, List.length_cons] at *
    omega
theorem join_len (l : List (List UInt8)) (h : ∀ y ∈ l, y.length ≤ 26) (h5 : l.length ≤ 5) : (Lib.join l [42]).length ≤ 200 := by
  cases l with
  | nil => simp [Lib.join_nil]
  | cons x r =>
    rw [Lib.join_length]
    have := lens_le (x :: r) h
    simp only [List.length_cons, List.length_nil] at *
    omega
theorem join_snoc (l : List (List UInt8)) (y : List UInt8) (h : l ≠ []) : Lib.join (l ++ [y]) [42] = Lib.join l [42] ++ 42 :: y := by
  cases l with
  | nil => exact absurd rfl h
  | cons x r =>
    rw [List.cons_append, Lib.join_cons, Lib.join_cons]
    simp [Lib.joinTail]
theorem join_first (y : List UInt8) : Lib.join ([] ++ [y]) [42] = y := Lib.join_one y [42]
theorem join_ne (l : List (List UInt8)) (h : ∀ y ∈ l, 1 ≤ y.length) : Lib.join l [42] = [] ↔ l = [] := by
  constructor
  · intro e
    cases l with
    | nil => rfl
    | cons x r =>
      rw [Lib.join_cons] at e
      have := h x (by simp)
      have e2 := congrArg List.length e
      rw [List.length_append, List.length_nil] at e2
      omega
  · rintro rfl; rfl
/-- The chapter's text. -/
def textS (x : D5) : List UInt8 := if items x 5 = [] then [49] else Lib.join (items x 5) [42]
theorem items_none (x : D5) (h : items x 5 = []) : x = dim0 := by
  have h5 : x.ex 4 = 0 := by
    by_cases k : x.ex 4 = 0
    · exact k
    · rw [items_one x 4 k] at h; simp at h
  rw [items_zero x 4 h5] at h
  have h4 : x.ex 3 = 0 := by
    by_cases k : x.ex 3 = 0
    · exact k
    · rw [items_one x 3 k] at h; simp at h
  rw [items_zero x 3 h4] at h
  have h3 : x.ex 2 = 0 := by
    by_cases k : x.ex 2 = 0
    · exact k
    · rw [items_one x 2 k] at h; simp at h
  rw [items_zero x 2 h3] at h
  have h2 : x.ex 1 = 0 := by
    by_cases k : x.ex 1 = 0
    · exact k
    · rw [items_one x 1 k] at h; simp at h
  rw [items_zero x 1 h2] at h
  have h1 : x.ex 0 = 0 := by
    by_cases k : x.ex 0 = 0
    · exact k
    · rw [items_one x 0 k] at h; simp at h
  cases x
  simp only [D5.ex] at h1 h2 h3 h4 h5
  subst h1; subst h2; subst h3; subst h4; subst h5
  rfl
theorem text_zero : textS dim0 = [49] := by decide
end Go.Proofs.YtjmngnnmnbhfpaaDoor

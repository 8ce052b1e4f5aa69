/- Texts as runes, plain: where a sequence begins, the runes of a string and their places, the first fault, lines and columns, runs. -/
import Derived.Lib.DecodeN
import Derived.Laws.RangeAny
namespace Go.Proofs.YtecdfnpbcabdnaaGreatDoor
open Go.Lib

/-- No sequence begins there. -/
abbrev noSeq (d : Nat × Nat) : Bool := d.1 == 65533 && d.2 == 1
theorem width_pos (s : ByteArray) (i : Nat) : 1 ≤ (Utf8.decode s i).2 := by
  rw [decode_at]
  unfold decodeN
  repeat' split
  all_goals simp
theorem width_four (s : ByteArray) (i : Nat) : (Utf8.decode s i).2 ≤ 4 := by
  rw [decode_at]
  unfold decodeN
  repeat' split
  all_goals simp
theorem width_in (s : ByteArray) (i : Nat) (h : i < s.size) : i + (Utf8.decode s i).2 ≤ s.size := by
  rw [decode_at]
  unfold decodeN
  repeat' split
  all_goals (simp only []; omega)
/-- Two strings that have the same bytes at a sequence have the same sequence. -/
theorem decodeN_same {n m b0 b1 b2 b3 c1 c2 c3 : Nat} (hv : noSeq (decodeN n b0 b1 b2 b3) = false)
    (h1 : 1 < (decodeN n b0 b1 b2 b3).2 → b1 = c1) (h2 : 2 < (decodeN n b0 b1 b2 b3).2 → b2 = c2) (h3 : 3 < (decodeN n b0 b1 b2 b3).2 → b3 = c3)
    (hm : (decodeN n b0 b1 b2 b3).2 ≤ m) : decodeN m b0 c1 c2 c3 = decodeN n b0 b1 b2 b3 := by
  unfold decodeN at hv h1 h2 h3 hm ⊢
  by_cases k0 : b0 < 128
  · simp only [if_pos k0]
  simp only [if_neg k0] at hv h1 h2 h3 hm ⊢
  by_cases k1 : b0 / 32 = 6 ∧ (1 < n ∧ b1 / 64 = 2)
  · simp only [if_pos k1] at hv h1 h2 h3 hm ⊢
    by_cases k2 : b0 % 32 * 64 + b1 % 64 ≥ 128
    · simp only [if_pos k2] at hv h1 h2 h3 hm ⊢
      obtain rfl := h1 (by omega)
      rw [if_pos ⟨k1.1, by omega, k1.2.2⟩, if_pos k2]
    · simp [if_neg k2] at hv
  simp only [if_neg k1] at hv h1 h2 h3 hm ⊢
  by_cases k3 : b0 / 16 = 14 ∧ (1 < n ∧ b1 / 64 = 2) ∧ (2 < n ∧ b2 / 64 = 2)
  · simp only [if_pos k3] at hv h1 h2 h3 hm ⊢
    split at hv
    · rename_i k2
      simp only [if_pos k2] at h1 h2 h3 hm ⊢
      obtain rfl := h1 (by omega)
      obtain rfl := h2 (by omega)
      rw [if_neg (by omega), if_pos ⟨k3.1, ⟨by omega, k3.2.1.2⟩, by omega, k3.2.2.2⟩, if_pos k2]
    · simp at hv
  simp only [if_neg k3] at hv h1 h2 h3 hm ⊢
  by_cases k4 : b0 / 8 = 30 ∧ (1 < n ∧ b1 / 64 = 2) ∧ (2 < n ∧ b2 / 64 = 2) ∧ (3 < n ∧ b3 / 64 = 2)
  · simp only [if_pos k4] at hv h1 h2 h3 hm ⊢
    split at hv
    · rename_i k2
      simp only [if_pos k2] at h1 h2 h3 hm ⊢
      obtain rfl := h1 (by omega)
      obtain rfl := h2 (by omega)
      obtain rfl := h3 (by omega)
      rw [if_neg (by omega), if_neg (by omega), if_pos ⟨k4.1, ⟨by omega, k4.2.1.2⟩, ⟨by omega, k4.2.2.1.2⟩, by omega, k4.2.2.2.2⟩, if_pos k2]
    · simp at hv
  · simp [if_neg k4] at hv
theorem decode_same {s t : ByteArray} {i j : Nat} (hv : noSeq (Utf8.decode s i) = false)
    (hb : ∀ x, x < (Utf8.decode s i).2 → s.get! (i + x) = t.get! (j + x)) (hj : j + (Utf8.decode s i).2 ≤ t.size) : Utf8.decode t j = Utf8.decode s i := by
  have hw := width_pos s i
  rw [decode_at s i] at hv hb hj hw ⊢
  rw [decode_at t j]
  have h0 : s.get! i = t.get! j := hb 0 (by omega)
  rw [← h0]
  exact decodeN_same hv (fun h => by rw [hb 1 h]) (fun h => by rw [hb 2 h]) (fun h => by rw [hb 3 h]) (by omega)
/-- All bytes the same, to the end and beyond. -/
theorem decode_tail {s t : ByteArray} {i j : Nat} (hn : s.size - i = t.size - j) (hb : ∀ x, s.get! (i + x) = t.get! (j + x)) : Utf8.decode t j = Utf8.decode s i := by
  rw [decode_at s i, decode_at t j, ← hn, ← hb 1, ← hb 2, ← hb 3]
  have h0 : s.get! i = t.get! j := hb 0
  rw [← h0]

/-- May a text have the rune? -/
abbrev lets (r : Nat) : Bool := if r < 32 then (r == 9 || r == 10 || r == 13) else !(decide (127 ≤ r) && decide (r ≤ 159)) && r != 65279
/-- What is wrong at the place: 0, nothing. -/
def flt (u k : Int) (d : Nat × Nat) : Int := if noSeq d then u else if lets d.1 then 0 else k

/-- The runes from a place on, each with the place at which it begins. -/
def rsF (s : ByteArray) : Nat → Nat → List (Nat × Nat)
  | 0, _ => []
  | f + 1, i => if i < s.size then ((Utf8.decode s i).1, i) :: rsF s f (i + (Utf8.decode s i).2) else []
def rs (s : ByteArray) (i : Nat) : List (Nat × Nat) := rsF s (s.size - i) i
theorem rsF_more (s : ByteArray) : ∀ (f g i : Nat), s.size ≤ i + f → s.size ≤ i + g → rsF s f i = rsF s g i
  | 0, 0, _, _, _ => rfl
  | 0, g + 1, i, hf, _ => by simp only [rsF]; rw [if_neg (by omega)]
  | f + 1, 0, i, _, hg => by simp only [rsF]; rw [if_neg (by omega)]
  | f + 1, g + 1, i, hf, hg => by
    simp only [rsF]
    have hw := width_pos s i
    rw [rsF_more s f g _ (by omega) (by omega)]
theorem rs_end {s : ByteArray} {i : Nat} (h : ¬ i < s.size) : rs s i = [] := by
  unfold rs
  rw [show s.size - i = 0 by omega]
  rfl
theorem rs_step {s : ByteArray} {i : Nat} (h : i < s.size) : rs s i = ((Utf8.decode s i).1, i) :: rs s (i + (Utf8.decode s i).2) := by
  unfold rs
  have hw := width_pos s i
  obtain ⟨f, hf⟩ : ∃ f, s.size - i = f + 1 := ⟨s.size - i - 1, by omega⟩
  rw [hf]
  simp only [rsF]
  rw [if_pos h, rsF_more s f (s.size - (i + (Utf8.decode s i).2)) _ (by omega) (by omega)]
/-- Along the places of a string. -/
theorem rs_ind {s : ByteArray} {Q : Nat → Prop} (he : ∀ i, ¬ i < s.size → Q i) (hs : ∀ i, i < s.size → Q (i + (Utf8.decode s i).2) → Q i) : ∀ i, Q i := by
  have : ∀ f i, s.size - i ≤ f → Q i := by
    intro f
    induction f with
    | zero => intro i h; exact he i (by omega)
    | succ f ih =>
      intro i h
      by_cases hi : i < s.size
      · have hw := width_pos s i
        exact hs i hi (ih _ (by omega))
      · exact he i hi
  exact fun i => this _ i (Nat.le_refl _)
theorem rs_length (s : ByteArray) : ∀ i, (rs s i).length ≤ s.size - i := by
  refine rs_ind (fun i h => by rw [rs_end h]; simp) (fun i h ih => ?_)
  rw [rs_step h]
  have hw := width_pos s i
  simp only [List.length_cons]
  omega
theorem rs_length0 (s : ByteArray) : (rs s 0).length ≤ s.size := by have := rs_length s 0; omega

/-- The place and the error of the first fault; 0, 0: none. -/
def sd (u k : Int) (s : ByteArray) : List (Nat × Nat) → Nat × Int
  | [] => (0, 0)
  | p :: t => if flt u k (Utf8.decode s p.2) = 0 then sd u k s t else (p.2, flt u k (Utf8.decode s p.2))
/-- Line and column. -/
def whr (x : Int) (n : Nat) (z : Int) : List (Nat × Nat) → Int → Int → Int × Int × Int
  | [], l, c => if x = (n : Int) then (l, c, 0) else (0, 0, z)
  | p :: t, l, c => if (p.2 : Int) = x then (l, c, 0) else if p.1 = 10 then whr x n z t (l + 1) 1 else whr x n z t l (c + 1)
/-- Where the run ends. -/
def rne (n : Nat) (is : Nat → Bool) : List (Nat × Nat) → Nat
  | [] => n
  | p :: t => if is p.1 then rne n is t else p.2

theorem sd_in (u k : Int) (s : ByteArray) : ∀ i, i ≤ s.size → (sd u k s (rs s i)).1 ≤ s.size := by
  refine rs_ind (Q := fun i => i ≤ s.size → _) (fun i h _ => by rw [rs_end h]; simp [sd]) (fun i h ih hi => ?_)
  rw [rs_step h]
  simp only [sd]
  split
  · exact ih (width_in s i h)
  · exact hi
theorem sd_place {u k : Int} {s : ByteArray} : ∀ l, (sd u k s l).2 = 0 → (sd u k s l).1 = 0
  | [], _ => rfl
  | p :: t, h => by
    simp only [sd] at h ⊢
    split
    · rename_i hf; rw [if_pos hf] at h; exact sd_place t h
    · rename_i hf; rw [if_neg hf] at h; exact absurd h hf
theorem flt_seq {u k : Int} (hu : u ≠ 0) {d : Nat × Nat} (h : flt u k d = 0) : noSeq d = false := by
  unfold flt at h
  split at h
  · exact absurd h hu
  · rename_i hn; simpa using hn
end Go.Proofs.YtecdfnpbcabdnaaGreatDoor

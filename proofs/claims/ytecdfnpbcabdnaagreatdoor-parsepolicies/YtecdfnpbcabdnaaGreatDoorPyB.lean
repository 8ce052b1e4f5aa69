/- Tokens read into trees, plain: what is left is no longer; tokens that are there. -/
import Derived.Test.YtecdfnpbcabdnaaGreatDoorPyA
namespace Go.Proofs.YtecdfnpbcabdnaaGreatDoor
open Go.Lib

/-- No more tokens are left than were there. -/
def Dec {α : Type} (p : List Tk → Rs α) : Prop := ∀ L y, p L = .ok y → y.2.length ≤ L.length
theorem bnd_inv {α β : Type} {r : Except Flt α} {f : α → Except Flt β} {y : β} (h : bnd r f = .ok y) : ∃ a, r = .ok a ∧ f a = .ok y := by
  cases r with
  | error e => cases h
  | ok a => exact ⟨a, rfl, h⟩
theorem takeK_len {c k : Int} {L : List Tk} {y : Tk × List Tk} (h : takeK c k L = .ok y) : y.2 = L.tail := by
  obtain ⟨t, _, h2⟩ := bnd_inv h
  split at h2
  · cases h2; rfl
  · cases h2
theorem mustS_len {c : Int} {x : ByteArray} {L : List Tk} {y : Nat × List Tk} (h : mustS c x L = .ok y) : y.2 = L.tail := by
  obtain ⟨t, _, h2⟩ := bnd_inv h
  split at h2
  · cases h2; rfl
  · cases h2
theorem tail_le (L : List Tk) : L.tail.length ≤ L.length := by simp
theorem dec_unit (c : Int) : Dec (unitP c) := by
  intro L y h
  obtain ⟨t, _, h2⟩ := bnd_inv h
  split at h2
  · cases h2; exact tail_le L
  · cases h2; exact Nat.le_refl _
theorem dec_number (c : Int) : Dec (numberP c) := by
  intro L y h
  obtain ⟨t, h1, h2⟩ := bnd_inv h
  obtain ⟨u, h3, h4⟩ := bnd_inv h2
  cases h4
  have := dec_unit c _ _ h3
  rw [takeK_len h1] at this
  have := tail_le L
  show u.2.length ≤ _
  omega
theorem dec_must {c : Int} {x : ByteArray} {L : List Tk} {y : Nat × List Tk} (h : mustS c x L = .ok y) : y.2.length ≤ L.length := by rw [mustS_len h]; exact tail_le L
theorem dec_take {c k : Int} {L : List Tk} {y : Tk × List Tk} (h : takeK c k L = .ok y) : y.2.length ≤ L.length := by rw [takeK_len h]; exact tail_le L
theorem dec_close {α : Type} {c : Int} {x : ByteArray} {y z : α × List Tk} (h : closeP c x y = .ok z) : z.2.length ≤ y.2.length := by
  obtain ⟨a, h1, h2⟩ := bnd_inv h
  cases h2
  exact dec_must h1
theorem dec_close2 {α : Type} {c : Int} {x : ByteArray} {a : α} {L : List Tk} {z : α × List Tk} (h : closeP c x (a, L) = .ok z) : z.2.length ≤ L.length := dec_close h
theorem dec_begin {α β : Type} {c : Int} {x : ByteArray} {X : Option α} {L : List Tk} {f : α → List Tk → Rs β} {y : β × List Tk} (hf : ∀ E, X = some E → ∀ L1, f E L1 = .ok y → y.2.length ≤ L1.length) (h : beginP c x X L f = .ok y) : y.2.length ≤ L.length := by
  obtain ⟨a, h1, h2⟩ := bnd_inv h
  cases X with
  | none => cases h2
  | some E => exact Nat.le_trans (hf E rfl _ h2) (dec_must h1)
theorem dec_more {c : Int} {E : Ps} (hE : Dec E) : ∀ n ps L y, moreP c E n ps L = .ok y → y.2.length ≤ L.length
  | 0, _, _, _, h => by cases h; exact Nat.le_refl _
  | n + 1, ps, L, y, h => by
    obtain ⟨a, h1, h2⟩ := bnd_inv h
    obtain ⟨b, h3, h4⟩ := bnd_inv h2
    have := dec_more hE n _ _ _ h4
    have := hE _ _ h3
    have := dec_must h1
    omega
/-- All that may be read behind a bracket. -/
def DecO (X : Option Ps) : Prop := ∀ E, X = some E → Dec E
theorem dec_call {c : Int} {X : Option Ps} (hX : DecO X) (k : Int) (n a : Nat) : Dec (callP c X k n a) := fun L y h => dec_begin (fun E hE L1 h1 => by
  obtain ⟨a, h2, h3⟩ := bnd_inv h1
  obtain ⟨b, h4, h5⟩ := bnd_inv h3
  have := dec_close2 h5
  have := dec_more (hX E hE) _ _ _ _ h4
  have := hX E hE _ _ h2
  show y.2.length ≤ _
  omega) h
theorem dec_cron {c : Int} {X : Option Ps} (a : Nat) : Dec (cronP c X a) := fun L y h => dec_begin (fun E hE L1 h1 => by
  obtain ⟨a, h2, h3⟩ := bnd_inv h1
  have := dec_close2 h3
  have := dec_take h2
  show y.2.length ≤ _
  omega) h
theorem dec_win {c : Int} {X : Option Ps} (k : Int) (a : Nat) : Dec (winP c X k a) := fun L y h => dec_begin (fun E hE L1 h1 => by
  obtain ⟨a, h2, h3⟩ := bnd_inv h1
  obtain ⟨b, h4, h5⟩ := bnd_inv h3
  obtain ⟨d, h6, h7⟩ := bnd_inv h5
  have := dec_take h2
  have := dec_must h4
  have := dec_take h6
  split at h7
  · obtain ⟨e, h8, h9⟩ := bnd_inv h7
    obtain ⟨m, h10, h11⟩ := bnd_inv h9
    have := dec_must h8
    have := dec_take h10
    have := dec_close2 h11
    show y.2.length ≤ _
    omega
  · have := dec_close2 h7
    show y.2.length ≤ _
    omega) h
theorem dec_word {c : Int} {X : Option Ps} (hX : DecO X) (t : Tk) : Dec (wordP c X t) := by
  have ok : ∀ (x : Tm) (L : List Tk) y, (Except.ok (x, L) : Rs Tm) = .ok y → y.2.length ≤ L.length := fun x L y h => by cases h; exact Nat.le_refl _
  intro L y h
  unfold wordP at h
  by_cases h0 : t.text = k_true
  · rw [if_pos h0] at h; exact ok _ _ _ h
  rw [if_neg h0] at h
  by_cases h1 : t.text = k_false
  · rw [if_pos h1] at h; exact ok _ _ _ h
  rw [if_neg h1] at h
  by_cases h2 : t.text = k_reps
  · rw [if_pos h2] at h; exact ok _ _ _ h
  rw [if_neg h2] at h
  by_cases h3 : t.text = k_if
  · rw [if_pos h3] at h; exact dec_call hX _ _ _ _ _ h
  rw [if_neg h3] at h
  by_cases h4 : t.text = k_min
  · rw [if_pos h4] at h; exact dec_call hX _ _ _ _ _ h
  rw [if_neg h4] at h
  by_cases h5 : t.text = k_max
  · rw [if_pos h5] at h; exact dec_call hX _ _ _ _ _ h
  rw [if_neg h5] at h
  by_cases h6 : t.text = k_either
  · rw [if_pos h6] at h; exact dec_call hX _ _ _ _ _ h
  rw [if_neg h6] at h
  by_cases h7 : t.text = k_abs
  · rw [if_pos h7] at h; exact dec_call hX _ _ _ _ _ h
  rw [if_neg h7] at h
  by_cases h8 : t.text = k_ceil
  · rw [if_pos h8] at h; exact dec_call hX _ _ _ _ _ h
  rw [if_neg h8] at h
  by_cases h9 : t.text = k_floor
  · rw [if_pos h9] at h; exact dec_call hX _ _ _ _ _ h
  rw [if_neg h9] at h
  by_cases h10 : t.text = k_cron
  · rw [if_pos h10] at h; exact dec_cron _ _ _ h
  rw [if_neg h10] at h
  by_cases h11 : winK t.text = 0
  · rw [if_pos h11] at h; cases h
  rw [if_neg h11] at h
  exact dec_win _ _ _ _ h
theorem dec_atom {c : Int} {X : Option Ps} (hX : DecO X) : Dec (atomP c X) := by
  intro L y h
  obtain ⟨t, _, h2⟩ := bnd_inv h
  split at h2
  · exact dec_number c _ _ h2
  · split at h2
    · cases h2; exact tail_le L
    · split at h2
      · have := dec_word hX t _ _ h2
        have := tail_le L
        omega
      · exact dec_begin (fun E hE L1 h1 => by
          obtain ⟨a, h3, h4⟩ := bnd_inv h1
          have := dec_close h4
          have := hX E hE _ _ h3
          omega) h2
theorem dec_fac {c : Int} {A : Ps} (hA : Dec A) : Dec (facP c A) := by
  intro L y h
  obtain ⟨t, _, h2⟩ := bnd_inv h
  have := tail_le L
  split at h2
  · obtain ⟨a, h3, h4⟩ := bnd_inv h2
    cases h4
    have := hA _ _ h3
    show a.2.length ≤ _
    omega
  · split at h2
    · obtain ⟨a, h3, h4⟩ := bnd_inv h2
      cases h4
      have := hA _ _ h3
      show a.2.length ≤ _
      omega
    · exact hA _ _ h2
theorem dec_join {c : Int} {sg : Sg} {S : Ps} (hS : Dec S) {x : Tm} {L : List Tk} {y : (Tm × Bool) × List Tk} (h : joinP c sg S x L = .ok y) : y.2.length ≤ L.length ∧ (y.1.2 = true → y.2.length ≤ L.tail.length) := by
  obtain ⟨t, _, h2⟩ := bnd_inv h
  have := tail_le L
  split at h2
  · obtain ⟨a, h3, h4⟩ := bnd_inv h2
    cases h4
    have := hS _ _ h3
    exact ⟨by show a.2.length ≤ _; omega, fun _ => this⟩
  · cases h2
    exact ⟨Nat.le_refl _, fun h => by cases h⟩
theorem dec_leftL {c : Int} {sg : Sg} {S : Ps} (hS : Dec S) : ∀ f x L y, leftL c sg S f x L = .ok y → y.2.length ≤ L.length
  | 0, _, _, _, h => by cases h; exact Nat.le_refl _
  | f + 1, x, L, y, h => by
    obtain ⟨a, h1, h2⟩ := bnd_inv h
    have := (dec_join hS h1).1
    split at h2
    · have := dec_leftL hS f _ _ _ h2
      omega
    · cases h2
      exact this
theorem dec_leftP {c : Int} {sg : Sg} {S : Ps} (hS : Dec S) : Dec (leftP c sg S) := by
  intro L y h
  obtain ⟨a, h1, h2⟩ := bnd_inv h
  have := dec_leftL hS _ _ _ _ h2
  have := hS _ _ h1
  omega
theorem dec_cmp {c : Int} {sg : Sg} {S : Ps} (hS : Dec S) : Dec (cmpP c sg S) := by
  intro L y h
  obtain ⟨a, h1, h2⟩ := bnd_inv h
  obtain ⟨b, h3, h4⟩ := bnd_inv h2
  cases h4
  have := (dec_join hS h3).1
  have := hS _ _ h1
  show b.2.length ≤ _
  omega
theorem dec_lv5 {c : Int} {X : Option Ps} (hX : DecO X) : Dec (lv5 c X) := dec_fac (dec_atom hX)
theorem dec_lv4 {c : Int} {X : Option Ps} (hX : DecO X) : Dec (lv4 c X) := dec_leftP (dec_lv5 hX)
theorem dec_lv3 {c : Int} {X : Option Ps} (hX : DecO X) : Dec (lv3 c X) := dec_leftP (dec_lv4 hX)
theorem dec_lv2 {c : Int} {X : Option Ps} (hX : DecO X) : Dec (lv2 c X) := dec_cmp (dec_lv3 hX)
theorem dec_lv1 {c : Int} {X : Option Ps} (hX : DecO X) : Dec (lv1 c X) := dec_leftP (dec_lv2 hX)
theorem dec_lv0 {c : Int} {X : Option Ps} (hX : DecO X) : Dec (lv0 c X) := dec_leftP (dec_lv1 hX)
theorem dec_expr (c : Int) : ∀ d, Dec (exprD c d)
  | 0 => dec_lv0 (fun _ h => by cases h)
  | d + 1 => dec_lv0 (fun E h => by cases h; exact dec_expr c d)
theorem dec_inner (c : Int) (d : Nat) : DecO (inner (exprD c) d) := by
  cases d with
  | zero => exact fun _ h => by cases h
  | succ d => exact fun E h => by cases h; exact dec_expr c d
theorem dec_bound (c : Int) : Dec (boundP c) := by
  intro L y h
  obtain ⟨t, _, h2⟩ := bnd_inv h
  have := tail_le L
  split at h2
  · obtain ⟨a, h3, h4⟩ := bnd_inv h2
    cases h4
    have := dec_number c _ _ h3
    show a.2.length ≤ _
    omega
  · exact dec_number c _ _ h2
theorem dec_may {c : Int} {x : ByteArray} {L : List Tk} {y : Bool × List Tk} (h : mayS c x L = .ok y) : y.2.length ≤ L.length := by
  obtain ⟨t, _, h2⟩ := bnd_inv h
  split at h2
  · cases h2; exact tail_le L
  · cases h2; exact Nat.le_refl _
theorem dec_rungs {c : Int} {A : Ps} (hA : Dec A) : ∀ f ps L y, rungs c A f ps L = .ok y → y.2.length ≤ L.length
  | 0, _, _, _, h => by cases h; exact Nat.le_refl _
  | f + 1, ps, L, y, h => by
    obtain ⟨b, h1, h2⟩ := bnd_inv h
    have := dec_may h1
    split at h2
    · obtain ⟨a, h3, h4⟩ := bnd_inv h2
      obtain ⟨u, h5, h6⟩ := bnd_inv h4
      have := dec_must h3
      have := hA _ _ h5
      have := dec_close2 h6
      show y.2.length ≤ _
      omega
    · obtain ⟨x, h3, h4⟩ := bnd_inv h2
      obtain ⟨a, h5, h6⟩ := bnd_inv h4
      obtain ⟨u, h7, h8⟩ := bnd_inv h6
      obtain ⟨d, h9, h10⟩ := bnd_inv h8
      have := dec_bound c _ _ h3
      have := dec_must h5
      have := hA _ _ h7
      have := dec_must h9
      have := dec_rungs hA f _ _ _ h10
      omega
theorem dec_act {c : Int} {E : Ps} {A : Option Ps} (hE : Dec E) (hA : DecO A) : Dec (actP c E A) := by
  intro L y h
  obtain ⟨t, _, h2⟩ := bnd_inv h
  have := tail_le L
  split at h2
  · cases h2; exact this
  · split at h2
    · obtain ⟨a, h3, h4⟩ := bnd_inv h2
      cases h4
      have := hE _ _ h3
      show a.2.length ≤ _
      omega
    · split at h2
      · obtain ⟨a, h3, h4⟩ := bnd_inv h2
        cases h4
        have := hE _ _ h3
        show a.2.length ≤ _
        omega
      · split at h2
        · obtain ⟨x, h3, h4⟩ := bnd_inv h2
          have := hE _ _ h3
          have := dec_begin (fun B hB L1 h5 => by
            obtain ⟨z, h6, h7⟩ := bnd_inv h5
            cases h7
            exact dec_rungs (hA B hB) _ _ _ _ h6) h4
          omega
        · cases h2
theorem dec_actD (c : Int) : ∀ d, Dec (actD c d)
  | 0 => dec_act (dec_expr c 0) (fun _ h => by cases h)
  | d + 1 => dec_act (dec_expr c (d + 1)) (fun E h => by cases h; exact dec_actD c d)

/-! ### Tokens that are there: the end is the last one -/
/-- What a token may hold. -/
structure TkOk (z : Nat) (t : Tk) : Prop where
  k : 1 ≤ t.kind ∧ t.kind ≤ 8
  x : t.text.size ≤ z
  n : 0 ≤ t.n ∧ t.n ≤ 9223372036854775807
  a : t.at_ ≤ z
def TL (z : Nat) : List Tk → Prop
  | [] => False
  | t :: L => TkOk z t ∧ ((L = [] ∧ t.kind = 7) ∨ (t.kind ≠ 7 ∧ TL z L))
theorem TL.ne {z : Nat} {L : List Tk} (h : TL z L) : L ≠ [] := by
  cases L with
  | nil => exact h.elim
  | cons t L => simp
theorem TL.pos {z : Nat} {L : List Tk} (h : TL z L) : 0 < L.length := List.length_pos_iff.2 h.ne
theorem TL.ok {z : Nat} {L : List Tk} (h : TL z L) : TkOk z (hdT L) := by
  cases L with
  | nil => exact h.elim
  | cons t L => exact h.1
theorem TL.tail {z : Nat} {L : List Tk} (h : TL z L) (hk : (hdT L).kind ≠ 7) : TL z L.tail := by
  cases L with
  | nil => exact h.elim
  | cons t L =>
    rcases h.2 with ⟨_, h2⟩ | ⟨_, h2⟩
    · exact absurd h2 hk
    · exact h2
theorem TL.cons {z : Nat} {L : List Tk} (h : TL z L) : L = hdT L :: L.tail := by
  cases L with
  | nil => exact h.elim
  | cons t L => rfl
theorem isT_kind {x : ByteArray} {t : Tk} (h : isT x t = true) : t.kind ≠ 7 := by
  intro h7
  unfold isT at h
  rw [h7] at h
  simp at h
theorem TL.tailI {z : Nat} {L : List Tk} {x : ByteArray} (h : TL z L) (hk : isT x (hdT L) = true) : TL z L.tail := h.tail (isT_kind hk)
end Go.Proofs.YtecdfnpbcabdnaaGreatDoor

/- Numbers in rising order: where one comes in, where one leaves, which one has a place. -/
import Derived.Test.YtccgbkafcbfcgaaBoxes
namespace Go.Proofs.Ytccgbkafcbfcgaa

/-- Rising. -/
def Asc (S : List Int) : Prop := S.Pairwise (fun a b => a ≤ b)
/-- How many are v or below it. -/
def cnt (v : Int) (S : List Int) : Nat := S.countP (fun x => decide (x ≤ v))
/-- One v more, behind those that are v or below it. -/
def ins (v : Int) (S : List Int) : List Int := S.take (cnt v S) ++ v :: S.drop (cnt v S)
/-- One less: the last of those that are v or below it. -/
def rem (v : Int) (S : List Int) : List Int := S.take (cnt v S - 1) ++ S.drop (cnt v S)
/-- All in rising order. -/
def srt (L : List Int) : List Int := L.foldl (fun S v => ins v S) []

theorem cnt_le (v : Int) (S : List Int) : cnt v S ≤ S.length := List.countP_le_length
theorem cnt_cons (v x : Int) (S : List Int) : cnt v (x :: S) = cnt v S + (if x ≤ v then 1 else 0) := by
  unfold cnt
  rw [List.countP_cons]
  by_cases h : x ≤ v <;> simp [h]
theorem cnt_zero {v : Int} {S : List Int} (h : ∀ x, x ∈ S → v < x) : cnt v S = 0 := by
  unfold cnt
  rw [List.countP_eq_zero]
  intro x hx
  have := h x hx
  simp; omega
theorem asc_cnt {S : List Int} (h : Asc S) (v : Int) : ∀ (i : Nat) (x : Int), S[i]? = some x → (x ≤ v ↔ i < cnt v S) := by
  induction S with
  | nil => intro i x hx; simp at hx
  | cons y S ih =>
    intro i x hx
    have h' : Asc S := (List.pairwise_cons.1 h).2
    have hy := (List.pairwise_cons.1 h).1
    by_cases hyv : y ≤ v
    · rw [cnt_cons, if_pos hyv]
      cases i with
      | zero => simp at hx; subst hx; constructor
                · intro _; omega
                · intro _; exact hyv
      | succ i => simp at hx; rw [ih h' i x hx]; omega
    · rw [cnt_cons, if_neg hyv, cnt_zero (fun z hz => by have := hy z hz; omega)]
      have hyx : y ≤ x := by
        cases i with
        | zero => simp at hx; omega
        | succ i => simp at hx; exact hy x (List.mem_of_getElem? hx)
      constructor
      · intro hh; omega
      · intro hh; omega
theorem asc_get {S : List Int} (h : Asc S) {i j : Nat} {x y : Int} (hij : i ≤ j) (hx : S[i]? = some x) (hy : S[j]? = some y) : x ≤ y := by
  have hj := (List.getElem?_eq_some_iff.1 hy).1
  have h1 := (asc_cnt h y j y hy).1 (Int.le_refl _)
  exact (asc_cnt h y i x hx).2 (by omega)
theorem ins_perm (v : Int) (S : List Int) : (ins v S).Perm (v :: S) := by
  unfold ins
  refine List.perm_middle.trans ?_
  rw [List.take_append_drop]
theorem asc_take_drop {S : List Int} (h : Asc S) (v : Int) : (∀ x, x ∈ S.take (cnt v S) → x ≤ v) ∧ (∀ x, x ∈ S.drop (cnt v S) → v < x) := by
  constructor
  · intro x hx
    obtain ⟨i, hi⟩ := List.getElem?_of_mem hx
    have hil : i < (S.take (cnt v S)).length := (List.getElem?_eq_some_iff.1 hi).1
    rw [List.getElem?_take_of_lt (by simp at hil; omega)] at hi
    exact (asc_cnt h v i x hi).2 (by simp at hil; omega)
  · intro x hx
    obtain ⟨i, hi⟩ := List.getElem?_of_mem hx
    rw [List.getElem?_drop] at hi
    have := (asc_cnt h v _ x hi)
    omega
theorem ins_asc {S : List Int} (h : Asc S) (v : Int) : Asc (ins v S) := by
  obtain ⟨h1, h2⟩ := asc_take_drop h v
  have hs : Asc (S.take (cnt v S) ++ S.drop (cnt v S)) := by rw [List.take_append_drop]; exact h
  obtain ⟨p1, p2, p3⟩ := List.pairwise_append.1 hs
  unfold ins Asc
  rw [List.pairwise_append]
  refine ⟨p1, List.pairwise_cons.2 ⟨fun x hx => by have := h2 x hx; omega, p2⟩, fun a ha b hb => ?_⟩
  rcases List.mem_cons.1 hb with rfl | hb
  · exact h1 a ha
  · exact p3 a ha b hb
theorem ins_length (v : Int) (S : List Int) : (ins v S).length = S.length + 1 := (ins_perm v S).length_eq
theorem srt_snoc (L : List Int) (v : Int) : srt (L ++ [v]) = ins v (srt L) := by simp [srt]
theorem srt_step {L : List Int} {k : Nat} {x : Int} (hx : L[k]? = some x) : srt (L.take (k + 1)) = ins x (srt (L.take k)) := by
  rw [List.take_add_one, hx]
  exact srt_snoc _ _
theorem srt_asc (L : List Int) : Asc (srt L) := by
  have h : ∀ (L S : List Int), Asc S → Asc (L.foldl (fun S v => ins v S) S) := fun L => by
    induction L with
    | nil => intro S h; exact h
    | cons x L ih => intro S h; exact ih _ (ins_asc h x)
  exact h L [] List.Pairwise.nil
theorem srt_perm (L : List Int) : (srt L).Perm L := by
  have h : ∀ (L S : List Int), (L.foldl (fun S v => ins v S) S).Perm (S ++ L) := fun L => by
    induction L with
    | nil => intro S; simp
    | cons x L ih =>
      intro S
      refine (ih (ins x S)).trans ?_
      refine ((ins_perm x S).append_right L).trans ?_
      rw [List.cons_append]
      exact List.perm_middle.symm
  have := h L []
  rwa [List.nil_append] at this
theorem srt_length (L : List Int) : (srt L).length = L.length := (srt_perm L).length_eq
theorem asc_one {A B : List Int} (hA : Asc A) (hB : Asc B) (h : A.Perm B) : A = B := h.eq_of_pairwise (fun _ _ _ _ h1 h2 => Int.le_antisymm h1 h2) hA hB
theorem cnt_perm {A B : List Int} (h : A.Perm B) (v : Int) : cnt v A = cnt v B := h.countP_eq _
theorem rem_no {S : List Int} (_h : Asc S) {v : Int} (hv : v ∉ S) : cnt v S = 0 ∨ ∃ x, S[cnt v S - 1]? = some x ∧ x ≠ v := by
  by_cases hc : cnt v S = 0
  · exact .inl hc
  · have hl := cnt_le v S
    refine .inr ⟨_, List.getElem?_eq_getElem (by omega), ?_⟩
    intro e
    exact hv (e ▸ List.getElem_mem _)
theorem rem_yes {S : List Int} (h : Asc S) {v : Int} (hv : v ∈ S) : 0 < cnt v S ∧ S[cnt v S - 1]? = some v := by
  obtain ⟨i, hi⟩ := List.getElem?_of_mem hv
  have h1 := (asc_cnt h v i v hi).1 (Int.le_refl _)
  have hl := cnt_le v S
  have hlt : cnt v S - 1 < S.length := by omega
  refine ⟨by omega, ?_⟩
  have h2 : S[cnt v S - 1]? = some S[cnt v S - 1] := List.getElem?_eq_getElem hlt
  have h3 := (asc_cnt h v _ _ h2).2 (by omega)
  have h4 := asc_get h (by omega) hi h2
  rw [h2]
  congr 1
  omega
theorem rem_perm {S : List Int} (h : Asc S) {v : Int} (hv : v ∈ S) : (v :: rem v S).Perm S := by
  obtain ⟨h1, h2⟩ := rem_yes h hv
  have hl := cnt_le v S
  have e : S = S.take (cnt v S - 1) ++ v :: S.drop (cnt v S) := by
    have hd := List.drop_eq_getElem_cons (l := S) (i := cnt v S - 1) (by omega)
    have hg : S[cnt v S - 1] = v := by
      have := List.getElem?_eq_getElem (l := S) (i := cnt v S - 1) (by omega)
      rw [h2] at this
      exact (Option.some.inj this).symm
    rw [hg, show cnt v S - 1 + 1 = cnt v S by omega] at hd
    rw [← hd, List.take_append_drop]
  have := (List.perm_middle (a := v) (l₁ := S.take (cnt v S - 1)) (l₂ := S.drop (cnt v S))).symm
  rw [← e] at this
  exact this
theorem rem_asc {S : List Int} (h : Asc S) (v : Int) : Asc (rem v S) := by
  have hs : (rem v S).Sublist S := by
    conv => rhs; rw [← List.take_append_drop (cnt v S) S]
    exact List.Sublist.append (List.take_sublist_take_left (by omega)) (List.Sublist.refl _)
  exact List.Pairwise.sublist hs h
theorem rem_length {S : List Int} (h : Asc S) {v : Int} (hv : v ∈ S) : (rem v S).length + 1 = S.length := by simpa using (rem_perm h hv).length_eq
theorem rem_srt {L : List Int} {v : Int} (hv : v ∈ L) : rem v (srt L) = srt (L.erase v) := by
  have hv' : v ∈ srt L := (srt_perm L).mem_iff.2 hv
  refine asc_one (rem_asc (srt_asc L) v) (srt_asc _) ?_
  have h1 := rem_perm (srt_asc L) hv'
  have h2 : (v :: rem v (srt L)).Perm (v :: srt (L.erase v)) := h1.trans ((srt_perm L).trans ((List.perm_cons_erase hv).trans ((srt_perm _).symm.cons v)))
  exact (List.perm_cons v).1 h2
theorem rem_ins {S : List Int} (h : Asc S) (v : Int) : rem v (ins v S) = S := by
  have hm : v ∈ ins v S := by simp [ins]
  refine asc_one (rem_asc (ins_asc h v) v) h ?_
  exact (List.perm_cons v).1 ((rem_perm (ins_asc h v) hm).trans (ins_perm v S))

/-- How many are below v; how many are v. -/
def low (v : Int) (S : List Int) : Nat := S.countP (fun x => decide (x < v))
def eqs (v : Int) (S : List Int) : Nat := S.countP (fun x => decide (x = v))
theorem low_eq (v : Int) (S : List Int) : low v S = cnt (v - 1) S := by
  unfold low cnt
  congr 1
  funext x
  simp only [decide_eq_decide]
  omega
theorem low_eqs (v : Int) (S : List Int) : low v S + eqs v S = cnt v S := by
  induction S with
  | nil => rfl
  | cons x S ih =>
    unfold low eqs cnt at ih ⊢
    simp only [List.countP_cons]
    rcases Int.lt_trichotomy x v with h | h | h
    · have h1 : ¬ x = v := by omega
      have h2 : x ≤ v := by omega
      simp [h, h1, h2]; omega
    · subst h
      simp; omega
    · have h1 : ¬ x = v := by omega
      have h2 : ¬ x ≤ v := by omega
      have h3 : ¬ x < v := by omega
      simp [h1, h2, h3]; omega
/-- What has the place i: of it at most i are lower, and more than i as low. -/
theorem at_iff {L : List Int} {i : Nat} {x : Int} (hx : (srt L)[i]? = some x) (y : Int) : low y L ≤ i ∧ i < low y L + eqs y L ↔ y = x := by
  have h1 := asc_cnt (srt_asc L) (y - 1) i x hx
  have h2 := asc_cnt (srt_asc L) y i x hx
  rw [low_eqs, low_eq, ← cnt_perm (srt_perm L), ← cnt_perm (srt_perm L)]
  omega
theorem count_range (S : List Int) (v : Int) : (List.range S.length).countP (fun i => !decide (v < S.getD i 0)) = cnt v S := by
  have h : S = (List.range S.length).map (fun i => S.getD i 0) := by
    apply List.ext_getElem
    · simp
    · intro i h1 h2
      simp [h1]
  unfold cnt
  conv => rhs; rw [h]
  rw [List.countP_map]
  congr 1
  funext i
  simp only [Function.comp, ← decide_not, decide_eq_decide]
  omega
end Go.Proofs.Ytccgbkafcbfcgaa

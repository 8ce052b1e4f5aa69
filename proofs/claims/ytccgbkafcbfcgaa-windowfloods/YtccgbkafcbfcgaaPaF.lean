/- A window beside the document's: what the one keeps is what the other finds. -/
import Derived.Test.YtccgbkafcbfcgaaPaE
import Derived.Test.YtccgbkafcbfcgaaWnH
import Derived.Test.YtccgbkafcbfcgaaWSt8
namespace Go.Proofs.Ytccgbkafcbfcgaa
open Go.RowKit

theorem drop_again {P Q : Pr → Bool} (h : ∀ x, Q x = true → P x = true) (Y Z : List Pr) : (Y.dropWhile Q ++ Z).dropWhile P = (Y ++ Z).dropWhile P := by
  induction Y with
  | nil => rfl
  | cons y Y ih =>
    by_cases hq : Q y = true
    · rw [List.dropWhile_cons_of_pos hq, ih, List.cons_append, List.dropWhile_cons_of_pos (h y hq)]
    · rw [List.dropWhile_cons_of_neg hq]
theorem fresh_again {span t t' : Int} (h : t ≤ t') (Y Z : List Pr) : fresh span t' (fresh span t Y ++ Z) = fresh span t' (Y ++ Z) :=
  drop_again (fun x hx => by simp at hx ⊢; omega) Y Z
theorem fresh_fresh {span t t' : Int} (h : t ≤ t') (Y : List Pr) : fresh span t' (fresh span t Y) = fresh span t' Y := by simpa using fresh_again h Y []
/-- The newest 4096. -/
def newest (A : List Pr) : List Pr := A.drop (A.length - 4096)
theorem newest_len (A : List Pr) : (newest A).length = min A.length 4096 := by simp [newest]; omega
/-- In the order of their times. -/
def Ordered (A : List Pr) : Prop := A.Pairwise (fun x y => x.1 ≤ y.1)
theorem filter_fresh {span t : Int} {X : List Pr} (h : Ordered X) : X.filter (fun s => decide (t - s.1 < span)) = fresh span t X := by
  induction X with
  | nil => rfl
  | cons x X ih =>
    obtain ⟨h1, h2⟩ := List.pairwise_cons.1 h
    by_cases hx : span ≤ t - x.1
    · have e : fresh span t (x :: X) = fresh span t X := by unfold fresh; exact List.dropWhile_cons_of_pos (by simpa using hx)
      rw [e, ← ih h2, List.filter_cons_of_neg (by simp; omega)]
    · have e : fresh span t (x :: X) = x :: X := by unfold fresh; exact List.dropWhile_cons_of_neg (by simpa using hx)
      rw [e]
      apply List.filter_eq_self.2
      intro y hy
      rcases List.mem_cons.1 hy with rfl | hy
      · simp; omega
      · have := h1 y hy; simp; omega
theorem heldOf_fresh {span t : Int} {A : List Pr} (h : Ordered A) : heldOf span t A = fresh span t (newest A) := filter_fresh (h.drop (i := A.length - 4096))
theorem fresh_len (span t : Int) (X : List Pr) : (fresh span t X).length ≤ X.length := (List.dropWhile_sublist _).length_le
theorem newest_snoc (A : List Pr) (s : Pr) : newest (A ++ [s]) = (if A.length < 4096 then newest A else (newest A).tail) ++ [s] := by
  unfold newest
  by_cases h : A.length < 4096
  · rw [if_pos h, show (A ++ [s]).length - 4096 = 0 by simp; omega, show A.length - 4096 = 0 by omega]
    rfl
  · have e : (A ++ [s]).length - 4096 = A.length - 4096 + 1 := by simp only [List.length_append, List.length_singleton]; omega
    rw [if_neg h, e, List.drop_append_of_le_length (by omega), List.tail_drop]
/-- Put keeps the agreement. -/
theorem pushed_newest {span t t' : Int} {A : List Pr} {s : Pr} (ht : t ≤ t') (hs : 1 ≤ span) : fresh span t' (pushed (fresh span t (newest A)) s) = fresh span t' (newest (A ++ [s])) := by
  have _ := hs
  have hl := fresh_len span t (newest A)
  have hn := newest_len A
  rw [newest_snoc]
  by_cases hf : (fresh span t (newest A)).length = 4096
  · have hsub : (fresh span t (newest A)).Sublist (newest A) := List.dropWhile_sublist _
    have e : fresh span t (newest A) = newest A := hsub.eq_of_length (by omega)
    rw [pushed, if_pos hf, e, if_neg (by omega)]
  · rw [pushed, if_neg hf]
    by_cases hA : A.length < 4096
    · rw [if_pos hA]; exact fresh_again ht _ _
    · rw [if_neg hA]
      have e : fresh span t (newest A) = fresh span t (newest A).tail := by
        cases hX : newest A with
        | nil => rfl
        | cons x X =>
          rw [hX] at hf hn
          by_cases hx : span ≤ t - x.1
          · unfold fresh; exact List.dropWhile_cons_of_pos (by simpa using hx)
          · have e2 : fresh span t (x :: X) = x :: X := by unfold fresh; exact List.dropWhile_cons_of_neg (by simpa using hx)
            rw [e2] at hf
            omega
      rw [e]
      exact fresh_again ht _ _
/-- The window's samples and all that were taken say the same, from the clock on. -/
structure Agree (span ck : Int) (on : Bool) (A L : List Pr) : Prop where
  ord : Ordered A
  le : ∀ x, x ∈ A → x.1 ≤ ck ∧ In64 x.1 ∧ In64 x.2
  off : on = false → A = []
  same : ∀ t, (on = true → ck ≤ t) → fresh span t L = heldOf span t A
  sp : 1 ≤ span
theorem agree_new {span : Int} (h : 1 ≤ span) : Agree span 0 false [] [] := ⟨List.Pairwise.nil, by simp, fun _ => rfl, fun _ _ => rfl, h⟩
theorem Agree.all {span ck : Int} {on : Bool} {A L : List Pr} (h : Agree span ck on A L) {t : Int} (ht : on = true → ck ≤ t) : ∀ x, x ∈ A → x.1 ≤ t ∧ In64 x.1 ∧ In64 x.2 := by
  intro x hx
  obtain ⟨h1, h2⟩ := h.le x hx
  cases on with
  | false => rw [h.off rfl] at hx; simp at hx
  | true => exact ⟨by have := ht rfl; omega, h2⟩
theorem Agree.read {span ck : Int} {on : Bool} {A L : List Pr} (h : Agree span ck on A L) {t : Int} (ht : on = true → ck ≤ t) : Agree span t true A (fresh span t L) :=
  ⟨h.ord, h.all ht, by simp, fun t' ht' => by
    have h1 := ht' rfl
    rw [fresh_fresh h1]
    exact h.same t' (fun e => by have := ht e; omega), h.sp⟩
theorem Agree.put {span ck : Int} {on : Bool} {A L : List Pr} (h : Agree span ck on A L) {s : Pr} (ht : on = true → ck ≤ s.1) (h1 : In64 s.1) (h2 : In64 s.2) : Agree span s.1 true (A ++ [s]) (pushed (fresh span s.1 L) s) := by
  have hle := h.all ht
  have ho : Ordered (A ++ [s]) := List.pairwise_append.2 ⟨h.ord, List.pairwise_singleton _ _, fun x hx y hy => by simp at hy; subst hy; exact (hle x hx).1⟩
  refine ⟨ho, ?_, by simp, ?_, h.sp⟩
  · intro x hx
    rcases List.mem_append.1 hx with hx | hx
    · exact hle x hx
    · simp at hx; subst hx; exact ⟨Int.le_refl _, h1, h2⟩
  · intro t' ht'
    rw [heldOf_fresh ho, h.same s.1 ht, heldOf_fresh h.ord]
    exact pushed_newest (ht' rfl) h.sp
/-- A window beside the document's. -/
structure Duo8 (B : Nat) (w : World) (b rb : Nat) (F : List Nat) (g : Nat) (m a s p ck : Int) (on : Bool) (A L : List Pr) : Prop where
  win : Win w b F a s p ck on L
  ref : Rf w rb g m a s p ck on A
  agree : Agree s ck on A L
  d1 : rb ∉ F
  d2 : g ∉ F
  own : ∀ i, i ∈ F → B ≤ i
  o1 : B ≤ rb
  o2 : B ≤ g
  start : B ≤ w.heap.size
theorem Duo8.next {B : Nat} {w w' : World} {b rb : Nat} {F : List Nat} {g : Nat} {m a s p ck : Int} {on : Bool} {A L : List Pr} (h : Duo8 B w b rb F g m a s p ck on A L) (t : Below w.heap.size w w') : Duo8 B w' b rb F g m a s p ck on A L :=
  ⟨h.win.next t, h.ref.next t, h.agree, h.d1, h.d2, h.own, h.o1, h.o2, Nat.le_trans h.start t.size⟩
/-- Between the two steps. -/
structure Half (B : Nat) (w : World) (b rb : Nat) (F : List Nat) (g : Nat) (m a s p ck : Int) (on : Bool) (A : List Pr) (t : Int) (L : List Pr) : Prop where
  win : Win w b F a s p t true L
  ref : Rf w rb g m a s p ck on A
  d1 : rb ∉ F
  d2 : g ∉ F
  own : ∀ i, i ∈ F → B ≤ i
  o1 : B ≤ rb
  o2 : B ≤ g
  start : B ≤ w.heap.size
theorem Half.next {B : Nat} {w w' : World} {b rb : Nat} {F : List Nat} {g : Nat} {m a s p ck : Int} {on : Bool} {A : List Pr} {t : Int} {L : List Pr} (h : Half B w b rb F g m a s p ck on A t L) (tt : Below w.heap.size w w') : Half B w' b rb F g m a s p ck on A t L :=
  ⟨h.win.next tt, h.ref.next tt, h.d1, h.d2, h.own, h.o1, h.o2, Nat.le_trans h.start tt.size⟩
theorem Duo8.first {B : Nat} {w w' : World} {b rb : Nat} {F : List Nat} {g : Nat} {m a s p ck t : Int} {on : Bool} {A L L' : List Pr} (h : Duo8 B w b rb F g m a s p ck on A L) (gn : Gone w b F a s p t L' w') {n : Nat} {vs : List Value} (hn : Box w n vs) (na : n ∉ F) :
    ∃ F', Half B w' b rb F' g m a s p ck on A t L' ∧ Box w' n vs ∧ n ∉ F' ∧ Below B w w' := by
  obtain ⟨l1, l2⟩ := h.ref.lt
  obtain ⟨F', h1, h2, h3, h4, h5⟩ := gn.keep h.own h.start [n, rb, g] (fun i hi => by
    simp at hi
    rcases hi with rfl | rfl | rfl
    · exact ⟨hn.lt, na⟩
    · exact ⟨l1, h.d1⟩
    · exact ⟨l2, h.d2⟩)
  exact ⟨F', ⟨h1, h.ref.turn h2 h.d1 h.d2, (h5 rb (by simp)).2, (h5 g (by simp)).2, h3, h.o1, h.o2, Nat.le_trans h.start h2.size⟩, hn.turn h2 na, (h5 n (by simp)).2, h4⟩
theorem Half.second {B : Nat} {w w' : World} {b rb : Nat} {F : List Nat} {g : Nat} {m a s p ck t : Int} {on : Bool} {A A' L' : List Pr} (h : Half B w b rb F g m a s p ck on A t L') (gn : RfGone w rb g m a s p t A' w') (ha : Agree s t true A' L') {n : Nat} {vs : List Value} (hn : Box w n vs) (n1 : n ≠ rb) (n2 : n ≠ g) :
    ∃ g', Duo8 B w' b rb F g' m a s p t true A' L' ∧ Box w' n vs ∧ Below B w w' := by
  obtain ⟨g', h1, h2, h3⟩ := gn
  have hF : ∀ i, i ∈ F → i ∉ [rb, g] := fun i hi hm => by
    simp at hm
    rcases hm with rfl | rfl
    · exact h.d1 hi
    · exact h.d2 hi
  have hs := h.start
  refine ⟨g', ⟨h.win.turn h2 hF, h1, ha, h.d1, fun hm => ?_, h.own, h.o1, ?_, Nat.le_trans h.start h2.size⟩, hn.turn h2 (by simp [n1, n2]), h2.below (fun i hi => ?_) h.start⟩
  · rcases h3 with rfl | h3
    · exact h.d2 hm
    · have := h.win.lt g' hm; omega
  · rcases h3 with rfl | h3
    · exact h.o2
    · omega
  · simp at hi
    rcases hi with rfl | rfl
    · exact h.o1
    · exact h.o2
end Go.Proofs.Ytccgbkafcbfcgaa

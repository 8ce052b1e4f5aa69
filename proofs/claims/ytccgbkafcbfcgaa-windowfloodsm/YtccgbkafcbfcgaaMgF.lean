/- A window beside the document's: what the one keeps is what the other finds. One call on both: the answers are one. One call on both, Held and none; any call. -/
import Derived.Test.YtccgbkafcbfcgaaPaE
import Derived.Test.YtccgbkafcbfcgaaWnH
import Derived.Test.YtccgbkafcbfcgaaWSt8
section
namespace Go.Proofs.Ytccgbkafcbfcgaa
open Go.RowKit

theorem drop_again {P Q : Pr → Bool} (h : ∀ x, Q x = true → P x = true) (Y Z : List Pr) : (Y.dropWhile Q ++ Z).dropWhile P = (Y ++ Z).dropWhile P := by
  induction Y with
  | nil => rfl
  | cons y Y ih =>
    by_cases hq : Q y = true
    · rw [List.dropWhile_cons_of_pos hq, ih, List.cons_append, List.dropWhile_cons_of_pos (h y hq)]
    · rw [List.dropWhile_cons_of_neg hq]
theorem fresh_again {span t t' : Int} (h : t ≤ t') (Y Z : List Pr) : fresh span t' (fresh span t Y ++ Z) = fresh span t' (Y ++ Z) :=
  drop_again (fun x hx => by simp at hx ⊢; omega) Y Z
theorem fresh_fresh {span t t' : Int} (h : t ≤ t') (Y : List Pr) : fresh span t' (fresh span t Y) = fresh span t' Y := by simpa using fresh_again h Y []
/-- The newest 4096. -/
def newest (A : List Pr) : List Pr := A.drop (A.length - 4096)
theorem newest_len (A : List Pr) : (newest A).length = min A.length 4096 := by simp [newest]; omega
/-- In the order of their times. -/
def Ordered (A : List Pr) : Prop := A.Pairwise (fun x y => x.1 ≤ y.1)
theorem filter_fresh {span t : Int} {X : List Pr} (h : Ordered X) : X.filter (fun s => decide (t - s.1 < span)) = fresh span t X := by
  induction X with
  | nil => rfl
  | cons x X ih =>
    obtain ⟨h1, h2⟩ := List.pairwise_cons.1 h
    by_cases hx : span ≤ t - x.1
    · have e : fresh span t (x :: X) = fresh span t X := by unfold fresh; exact List.dropWhile_cons_of_pos (by simpa using hx)
      rw [e, ← ih h2, List.filter_cons_of_neg (by simp; omega)]
    · have e : fresh span t (x :: X) = x :: X := by unfold fresh; exact List.dropWhile_cons_of_neg (by simpa using hx)
      rw [e]
      apply List.filter_eq_self.2
      intro y hy
      rcases List.mem_cons.1 hy with rfl | hy
      · simp; omega
      · have := h1 y hy; simp; omega
theorem heldOf_fresh {span t : Int} {A : List Pr} (h : Ordered A) : heldOf span t A = fresh span t (newest A) := filter_fresh (h.drop (i := A.length - 4096))
theorem fresh_len (span t : Int) (X : List Pr) : (fresh span t X).length ≤ X.length := (List.dropWhile_sublist _).length_le
theorem newest_snoc (A : List Pr) (s : Pr) : newest (A ++ [s]) = (if A.length < 4096 then newest A else (newest A).tail) ++ [s] := by
  unfold newest
  by_cases h : A.length < 4096
  · rw [if_pos h, show (A ++ [s]).length - 4096 = 0 by simp; omega, show A.length - 4096 = 0 by omega]
    rfl
  · have e : (A ++ [s]).length - 4096 = A.length - 4096 + 1 := by simp only [List.length_append, List.length_singleton]; omega
    rw [if_neg h, e, List.drop_append_of_le_length (by omega), List.tail_drop]
/-- Put keeps the agreement. -/
theorem pushed_newest {span t t' : Int} {A : List Pr} {s : Pr} (ht : t ≤ t') (hs : 1 ≤ span) : fresh span t' (pushed (fresh span t (newest A)) s) = fresh span t' (newest (A ++ [s])) := by
  have _ := hs
  have hl := fresh_len span t (newest A)
  have hn := newest_len A
  rw [newest_snoc]
  by_cases hf : (fresh span t (newest A)).length = 4096
  · have hsub : (fresh span t (newest A)).Sublist (newest A) := List.dropWhile_sublist _
    have e : fresh span t (newest A) = newest A := hsub.eq_of_length (by omega)
    rw [pushed, if_pos hf, e, if_neg (by omega)]
  · rw [pushed, if_neg hf]
    by_cases hA : A.length < 4096
    · rw [if_pos hA]; exact fresh_again ht _ _
    · rw [if_neg hA]
      have e : fresh span t (newest A) = fresh span t (newest A).tail := by
        cases hX : newest A with
        | nil => rfl
        | cons x X =>
          rw [hX] at hf hn
          by_cases hx : span ≤ t - x.1
          · unfold fresh; exact List.dropWhile_cons_of_pos (by simpa using hx)
          · have e2 : fresh span t (x :: X) = x :: X := by unfold fresh; exact List.dropWhile_cons_of_neg (by simpa using hx)
            rw [e2] at hf
            omega
      rw [e]
      exact fresh_again ht _ _
/-- The window's samples and all that were taken say the same, from the clock on. -/
structure Agree (span ck : Int) (on : Bool) (A L : List Pr) : Prop where
  ord : Ordered A
  le : ∀ x, x ∈ A → x.1 ≤ ck ∧ In64 x.1 ∧ In64 x.2
  off : on = false → A = []
  same : ∀ t, (on = true → ck ≤ t) → fresh span t L = heldOf span t A
  sp : 1 ≤ span
theorem agree_new {span : Int} (h : 1 ≤ span) : Agree span 0 false [] [] := ⟨List.Pairwise.nil, by simp, fun _ => rfl, fun _ _ => rfl, h⟩
theorem Agree.all {span ck : Int} {on : Bool} {A L : List Pr} (h : Agree span ck on A L) {t : Int} (ht : on = true → ck ≤ t) : ∀ x, x ∈ A → x.1 ≤ t ∧ In64 x.1 ∧ In64 x.2 := by
  intro x hx
  obtain ⟨h1, h2⟩ := h.le x hx
  cases on with
  | false => rw [h.off rfl] at hx; simp at hx
  | true => exact ⟨by have := ht rfl; omega, h2⟩
theorem Agree.read {span ck : Int} {on : Bool} {A L : List Pr} (h : Agree span ck on A L) {t : Int} (ht : on = true → ck ≤ t) : Agree span t true A (fresh span t L) :=
  ⟨h.ord, h.all ht, by simp, fun t' ht' => by
    have h1 := ht' rfl
    rw [fresh_fresh h1]
    exact h.same t' (fun e => by have := ht e; omega), h.sp⟩
theorem Agree.put {span ck : Int} {on : Bool} {A L : List Pr} (h : Agree span ck on A L) {s : Pr} (ht : on = true → ck ≤ s.1) (h1 : In64 s.1) (h2 : In64 s.2) : Agree span s.1 true (A ++ [s]) (pushed (fresh span s.1 L) s) := by
  have hle := h.all ht
  have ho : Ordered (A ++ [s]) := List.pairwise_append.2 ⟨h.ord, List.pairwise_singleton _ _, fun x hx y hy => by simp at hy; subst hy; exact (hle x hx).1⟩
  refine ⟨ho, ?_, by simp, ?_, h.sp⟩
  · intro x hx
    rcases List.mem_append.1 hx with hx | hx
    · exact hle x hx
    · simp at hx; subst hx; exact ⟨Int.le_refl _, h1, h2⟩
  · intro t' ht'
    rw [heldOf_fresh ho, h.same s.1 ht, heldOf_fresh h.ord]
    exact pushed_newest (ht' rfl) h.sp
/-- A window beside the document's. -/
structure Duo8 (B : Nat) (w : World) (b rb : Nat) (F : List Nat) (g : Nat) (m a s p ck : Int) (on : Bool) (A L : List Pr) : Prop where
  win : Win w b F a s p ck on L
  ref : Rf w rb g m a s p ck on A
  agree : Agree s ck on A L
  d1 : rb ∉ F
  d2 : g ∉ F
  own : ∀ i, i ∈ F → B ≤ i
  o1 : B ≤ rb
  o2 : B ≤ g
  start : B ≤ w.heap.size
theorem Duo8.next {B : Nat} {w w' : World} {b rb : Nat} {F : List Nat} {g : Nat} {m a s p ck : Int} {on : Bool} {A L : List Pr} (h : Duo8 B w b rb F g m a s p ck on A L) (t : Below w.heap.size w w') : Duo8 B w' b rb F g m a s p ck on A L :=
  ⟨h.win.next t, h.ref.next t, h.agree, h.d1, h.d2, h.own, h.o1, h.o2, Nat.le_trans h.start t.size⟩
/-- Between the two steps. -/
structure Half (B : Nat) (w : World) (b rb : Nat) (F : List Nat) (g : Nat) (m a s p ck : Int) (on : Bool) (A : List Pr) (t : Int) (L : List Pr) : Prop where
  win : Win w b F a s p t true L
  ref : Rf w rb g m a s p ck on A
  d1 : rb ∉ F
  d2 : g ∉ F
  own : ∀ i, i ∈ F → B ≤ i
  o1 : B ≤ rb
  o2 : B ≤ g
  start : B ≤ w.heap.size
theorem Half.next {B : Nat} {w w' : World} {b rb : Nat} {F : List Nat} {g : Nat} {m a s p ck : Int} {on : Bool} {A : List Pr} {t : Int} {L : List Pr} (h : Half B w b rb F g m a s p ck on A t L) (tt : Below w.heap.size w w') : Half B w' b rb F g m a s p ck on A t L :=
  ⟨h.win.next tt, h.ref.next tt, h.d1, h.d2, h.own, h.o1, h.o2, Nat.le_trans h.start tt.size⟩
theorem Duo8.first {B : Nat} {w w' : World} {b rb : Nat} {F : List Nat} {g : Nat} {m a s p ck t : Int} {on : Bool} {A L L' : List Pr} (h : Duo8 B w b rb F g m a s p ck on A L) (gn : Gone w b F a s p t L' w') {n : Nat} {vs : List Value} (hn : Box w n vs) (na : n ∉ F) :
    ∃ F', Half B w' b rb F' g m a s p ck on A t L' ∧ Box w' n vs ∧ n ∉ F' ∧ Below B w w' := by
  obtain ⟨l1, l2⟩ := h.ref.lt
  obtain ⟨F', h1, h2, h3, h4, h5⟩ := gn.keep h.own h.start [n, rb, g] (fun i hi => by
    simp at hi
    rcases hi with rfl | rfl | rfl
    · exact ⟨hn.lt, na⟩
    · exact ⟨l1, h.d1⟩
    · exact ⟨l2, h.d2⟩)
  exact ⟨F', ⟨h1, h.ref.turn h2 h.d1 h.d2, (h5 rb (by simp)).2, (h5 g (by simp)).2, h3, h.o1, h.o2, Nat.le_trans h.start h2.size⟩, hn.turn h2 na, (h5 n (by simp)).2, h4⟩
theorem Half.second {B : Nat} {w w' : World} {b rb : Nat} {F : List Nat} {g : Nat} {m a s p ck t : Int} {on : Bool} {A A' L' : List Pr} (h : Half B w b rb F g m a s p ck on A t L') (gn : RfGone w rb g m a s p t A' w') (ha : Agree s t true A' L') {n : Nat} {vs : List Value} (hn : Box w n vs) (n1 : n ≠ rb) (n2 : n ≠ g) :
    ∃ g', Duo8 B w' b rb F g' m a s p t true A' L' ∧ Box w' n vs ∧ Below B w w' := by
  obtain ⟨g', h1, h2, h3⟩ := gn
  have hF : ∀ i, i ∈ F → i ∉ [rb, g] := fun i hi hm => by
    simp at hm
    rcases hm with rfl | rfl
    · exact h.d1 hi
    · exact h.d2 hi
  have hs := h.start
  refine ⟨g', ⟨h.win.turn h2 hF, h1, ha, h.d1, fun hm => ?_, h.own, h.o1, ?_, Nat.le_trans h.start h2.size⟩, hn.turn h2 (by simp [n1, n2]), h2.below (fun i hi => ?_) h.start⟩
  · rcases h3 with rfl | h3
    · exact h.d2 hm
    · have := h.win.lt g' hm; omega
  · rcases h3 with rfl | h3
    · exact h.o2
    · omega
  · simp at hi
    rcases hi with rfl | rfl
    · exact h.o1
    · exact h.o2
end Go.Proofs.Ytccgbkafcbfcgaa
end
section
namespace Go.Proofs.Ytccgbkafcbfcgaa
open Go.RowKit

/-- What a step leaves: both as they agree. -/
def Stepped (B : Nat) (w : World) (b rb : Nat) (m a s p : Int) (n : Nat) (w' : World) : Prop := ∃ (F : List Nat) (g : Nat) (ck : Int) (on : Bool) (A L : List Pr), Duo8 B w' b rb F g m a s p ck on A L ∧ A.length ≤ n ∧ Below B w w'
theorem Duo8.notF {B : Nat} {w : World} {b rb : Nat} {F : List Nat} {g : Nat} {m a s p ck : Int} {on : Bool} {A L : List Pr} (h : Duo8 B w b rb F g m a s p ck on A L) {n : Nat} (hn : w.heap.size ≤ n) : n ∉ F ∧ n ≠ rb ∧ n ≠ g := by
  obtain ⟨l1, l2⟩ := h.ref.lt
  exact ⟨fun hm => by have := h.win.lt n hm; omega, by omega, by omega⟩
theorem Half.notF {B : Nat} {w : World} {b rb : Nat} {F : List Nat} {g : Nat} {m a s p ck : Int} {on : Bool} {A : List Pr} {t : Int} {L : List Pr} (h : Half B w b rb F g m a s p ck on A t L) {n : Nat} (hn : w.heap.size ≤ n) : n ∉ F ∧ n ≠ rb ∧ n ≠ g := by
  obtain ⟨l1, l2⟩ := h.ref.lt
  exact ⟨fun hm => by have := h.win.lt n hm; omega, by omega, by omega⟩
set_option maxRecDepth 20000 in
set_option maxHeartbeats 4000000 in
theorem step_put (B b rb : Nat) (F : List Nat) (g : Nat) (m a s p ck : Int) (on : Bool) (A L : List Pr) (x : Pr) (w : World) (h : Duo8 B w b rb F g m a s p ck on A L) (i1 : In64 x.1) (i2 : In64 x.2) (hl : A.length < 8796093022208) :
    Calls Try.prog 12 #[.pointer (some ⟨b, 0, none⟩), .pointer (some ⟨rb, 0, none⟩), .agg #[.int .i64 1, .int .i64 x.1, .int .i64 x.2]] w fun e w' => e = .returned (.bool true) ∧ Stepped B w b rb m a s p (A.length + 1) w' := by
  obtain ⟨b1, b2, bB⟩ := two_boxes w 37 45 [.int .i64 1, .int .i64 x.1, .int .i64 x.2] [.int .i64 x.1, .int .i64 x.2]
  obtain ⟨hN0, hB0⟩ := one_box w 37 [.int .i64 1, .int .i64 x.1, .int .i64 x.2]
  obtain ⟨W, hW⟩ : ∃ W, W = (w.alloc (.cells #[.int .i64 1, .int .i64 x.1, .int .i64 x.2] 37)).alloc (.cells #[.int .i64 x.1, .int .i64 x.2] 45) := ⟨_, rfl⟩
  rw [← hW] at b1 b2 bB
  have hD := h.next bB
  have hst := h.start
  obtain ⟨nf, nr, ng⟩ := h.notF (n := w.heap.size + 1) (by omega)
  have c0 := b2.cell 0 _ rfl
  have c1 := b2.cell 1 _ rfl
  have cl := b2.lt
  have a0 := hN0.cell 0 _ rfl
  have a1 := hN0.cell 1 _ rfl
  have a2 := hN0.cell 2 _ rfl
  have al := hN0.lt
  have HD := hid hD
  have HN := hid b2
  have HBB := hid (show Below B w W from bB.mono hst)
  clear hD b1 b2 bB hN0 hB0 h
  go_enter Try.func12, Try.ntmps12
  go_upto_region 4 with fail
  rw [← hW]
  clear hW a0 a1 a2 al
  generalize w.heap.size + 1 = n at *
  by_cases hs : on = true ∧ x.1 < ck
  · obtain ⟨rfl, hck⟩ := hs
    have HP := hid (fun k => wPut_stale b F a s p ck L x (W.drewN k) (HD.out.next (drewN_below W k)).win hck)
    go_region_with (first | (go_at_call 14; refine Calls.mono (HP.out 1) ?_; rintro e w1 ⟨rfl, hb1⟩; have hb := (drewN_below W 1).trans hb1; have d0 := (hb.cell (p := ⟨n, 0, none⟩) cl).trans c0; have d1 := (hb.cell (p := ⟨n, 1, none⟩) cl).trans c1; have HD1 := hid (HD.out.next hb); have H1 := hid hb; clear hb hb1) | (go_at_call 15; refine Calls.mono (fPut_stale rb g m a s p ck A x _ HD1.out.ref hck) ?_; rintro e w2 ⟨rfl, hb2⟩; have H2 := hid hb2; clear hb2))
    all_goals go_wp2_with fail
    all_goals go_ret
    all_goals (
      have b2 := HD1.out.next H2.out
      exact ⟨rfl, F, g, ck, true, A, L, b2, by omega, (HBB.out.trans (H1.out.mono HD.out.start)).trans (H2.out.mono HD1.out.start)⟩)
  · have hlt : Later on ck x.1 := fun e => by
      rcases Int.lt_or_le x.1 ck with h1 | h1
      · exact absurd ⟨e, h1⟩ hs
      · exact h1
    have HP := hid (fun k => wPut b F a s p ck on L x (W.drewN k) (HD.out.next (drewN_below W k)).win i1 i2 hlt)
    have HL := hid hlt
    clear hs hlt
    go_region_with (first | (go_at_call 14; refine Calls.mono (HP.out 1) ?_; rintro e w1 ⟨rfl, g1⟩; obtain ⟨F1, hH, hN1, nf1, hB1⟩ := (HD.out.next (drewN_below W 1)).first g1 (HN.out.next (drewN_below W 1)) nf; have d0 := hN1.cell 0 _ rfl; have d1 := hN1.cell 1 _ rfl; have HH := hid hH; have HN1 := hid hN1; have HB1 := hid ((show Below B W (W.drewN 1) from (drewN_below W 1).mono HD.out.start).trans hB1); clear hH hN1 hB1 g1) | (go_at_call 15; refine Calls.mono (fPut rb g m a s p ck on A x _ HH.out.ref HL.out hl) ?_; rintro e w2 ⟨rfl, g2⟩; obtain ⟨g', hD2, -, hB2⟩ := HH.out.second g2 (HD.out.agree.put HL.out i1 i2) HN1.out nr ng; have HD2 := hid hD2; have HB2 := hid hB2; clear hD2 hB2 g2))
    all_goals go_wp2_with fail
    all_goals go_ret
    all_goals exact ⟨rfl, _, _, _, _, _, _, HD2.out, by simp, (HBB.out.trans HB1.out).trans HB2.out⟩
set_option maxRecDepth 20000 in
set_option maxHeartbeats 4000000 in
theorem step_read (B b rb : Nat) (F : List Nat) (g : Nat) (m a s p ck : Int) (on : Bool) (A L : List Pr) (x : Pr) (w : World) (h : Duo8 B w b rb F g m a s p ck on A L) (hr : RightT m a s p) (i1 : In64 x.1) (hl : A.length < 8796093022208) :
    Calls Try.prog 12 #[.pointer (some ⟨b, 0, none⟩), .pointer (some ⟨rb, 0, none⟩), .agg #[.int .i64 2, .int .i64 x.1, .int .i64 x.2]] w fun e w' => e = .returned (.bool true) ∧ Stepped B w b rb m a s p (A.length + 1) w' := by
  obtain ⟨hN0, hB0⟩ := one_box w 37 [.int .i64 2, .int .i64 x.1, .int .i64 x.2]
  obtain ⟨W, hW⟩ : ∃ W, W = w.alloc (.cells #[.int .i64 2, .int .i64 x.1, .int .i64 x.2] 37) := ⟨_, rfl⟩
  rw [← hW] at hN0 hB0
  have hD := h.next hB0
  obtain ⟨nf, nr, ng⟩ := h.notF (n := w.heap.size) (Nat.le_refl _)
  have a0 := hN0.cell 0 _ rfl
  have a1 := hN0.cell 1 _ rfl
  have al := hN0.lt
  have HD := hid hD
  have HN := hid hN0
  have HBB := hid (show Below B w W from hB0.mono h.start)
  clear hD hN0 hB0 h
  go_enter Try.func12, Try.ntmps12
  go_upto_region 1 with fail
  rw [← hW]
  clear hW
  generalize w.heap.size = n at *
  by_cases hs : on = true ∧ x.1 < ck
  · obtain ⟨rfl, hck⟩ := hs
    go_wp2_with fail
    refine Calls.mono (wRead_stale b F a s p ck L x.1 W HD.out.win hck) ?_
    rintro e w1 ⟨rfl, hb1⟩
    have hb2 : Below W.heap.size W (w1.alloc (.cells #[.int .i64 0, .int .i64 0] 49)) := hb1.alloc hb1.size _
    have hR2 := Box.new w1 [.int .i64 0, .int .i64 0] 49
    obtain ⟨w2, hw2⟩ : ∃ w2, w2 = w1.alloc (.cells #[.int .i64 0, .int .i64 0] 49) := ⟨_, rfl⟩
    rw [← hw2] at hb2 hR2
    have hN2 := HN.out.next hb2
    have d1 := hN2.cell 1 _ rfl
    have HD2 := hid (HD.out.next hb2)
    have HR2 := hid hR2
    have HB2 := hid (HBB.out.trans (hb2.mono HD.out.start))
    clear hb1 hb2 hR2 a0 a1
    simp only [rv, r0]
    go_upto_region 7 with fail
    rw [← hw2]
    clear hw2 hN2
    generalize w1.heap.size = q at *
    go_wp2_with fail
    refine Calls.mono (gRead_stale rb g m a s p ck A x.1 w2 HD2.out.ref hck) ?_
    rintro e w3 ⟨rfl, hb3⟩
    have hb4 : Below w2.heap.size w2 (w3.alloc (.cells #[.int .i64 0, .int .i64 0] 49)) := hb3.alloc hb3.size _
    have hR4 := Box.new w3 [.int .i64 0, .int .i64 0] 49
    obtain ⟨w4, hw4⟩ : ∃ w4, w4 = w3.alloc (.cells #[.int .i64 0, .int .i64 0] 49) := ⟨_, rfl⟩
    rw [← hw4] at hb4 hR4
    have hQ4 := HR2.out.next hb4
    have y0 := hQ4.cell 0 _ rfl
    have y1 := hQ4.cell 1 _ rfl
    have z0 := hR4.cell 0 _ rfl
    have z1 := hR4.cell 1 _ rfl
    have HD4 := hid (HD2.out.next hb4)
    have HB4 := hid (HB2.out.trans (hb4.mono HD2.out.start))
    clear hb3 hb4 hR4 hQ4 d1
    simp only [rv, r0]
    go_upto_region 8 with fail
    rw [← hw4]
    clear hw4
    generalize w3.heap.size = q4 at *
    go_wp2_with fail
    go_ret
    exact ⟨rfl, F, g, ck, true, A, L, HD4.out, by omega, HB4.out⟩
  · have hlt : Later on ck x.1 := fun e => by
      rcases Int.lt_or_le x.1 ck with h1 | h1
      · exact absurd ⟨e, h1⟩ hs
      · exact h1
    have HL := hid hlt
    have hsame : toldOf a p (vals (heldOf s x.1 A)) = toldOf a p (vals (fresh s x.1 L)) := by rw [HD.out.agree.same x.1 hlt]
    generalize hy : toldOf a p (vals (fresh s x.1 L)) = y at hsame
    have HY := hid hy
    have HYA := hid hsame
    clear hs hlt hy hsame
    go_wp2_with fail
    refine Calls.mono (wRead b F a s p ck on L x.1 W HD.out.win i1 HL.out) ?_
    rw [HY.out]
    rintro e w1 ⟨rfl, g1⟩
    obtain ⟨F1, hH, hN1, nf1, hB1⟩ := HD.out.first g1 HN.out nf
    have hb2 : Below w1.heap.size w1 (w1.alloc (.cells #[.int .i64 y.1, .int .i64 y.2] 49)) := (Below.refl _ _).alloc (Nat.le_refl _) _
    have hR2 := Box.new w1 [.int .i64 y.1, .int .i64 y.2] 49
    obtain ⟨w2, hw2⟩ : ∃ w2, w2 = w1.alloc (.cells #[.int .i64 y.1, .int .i64 y.2] 49) := ⟨_, rfl⟩
    rw [← hw2] at hb2 hR2
    obtain ⟨qf, qr, qg⟩ := hH.notF (n := w1.heap.size) (Nat.le_refl _)
    have hN2 := hN1.next hb2
    have d1 := hN2.cell 1 _ rfl
    have HH2 := hid (hH.next hb2)
    have HR2 := hid hR2
    have HB2 := hid ((HBB.out.trans hB1).trans (hb2.mono (show B ≤ w1.heap.size from hH.start)))
    clear hB1 hb2 hR2 a0 a1 hH hN1 g1
    simp only [rv]
    go_upto_region 7 with fail
    rw [← hw2]
    clear hw2 hN2
    generalize w1.heap.size = q at *
    go_wp2_with fail
    refine Calls.mono (gRead rb g m a s p ck on A x.1 w2 HH2.out.ref HL.out hl (HD.out.agree.all HL.out) i1 hr) ?_
    rw [HYA.out]
    rintro e w3 ⟨rfl, g3⟩
    obtain ⟨g', hD3, hQ3, hB3⟩ := HH2.out.second g3 (HD.out.agree.read HL.out) HR2.out qr qg
    have hb4 : Below w3.heap.size w3 (w3.alloc (.cells #[.int .i64 y.1, .int .i64 y.2] 49)) := (Below.refl _ _).alloc (Nat.le_refl _) _
    have hR4 := Box.new w3 [.int .i64 y.1, .int .i64 y.2] 49
    obtain ⟨w4, hw4⟩ : ∃ w4, w4 = w3.alloc (.cells #[.int .i64 y.1, .int .i64 y.2] 49) := ⟨_, rfl⟩
    rw [← hw4] at hb4 hR4
    have hQ4 := hQ3.next hb4
    have y0 := hQ4.cell 0 _ rfl
    have y1 := hQ4.cell 1 _ rfl
    have z0 := hR4.cell 0 _ rfl
    have z1 := hR4.cell 1 _ rfl
    have HD4 := hid (hD3.next hb4)
    have HB4 := hid ((HB2.out.trans hB3).trans (hb4.mono hD3.start))
    clear hb4 hR4 hQ4 d1 hD3 hQ3 hB3 g3
    simp only [rv]
    go_upto_region 8 with fail
    rw [← hw4]
    clear hw4
    generalize w3.heap.size = q4 at *
    have xx1 : (y.1 == y.1) = true := by simp
    have xx2 : (y.2 == y.2) = true := by simp
    go_wp2_with fail
    go_ret
    exact ⟨rfl, _, _, _, _, _, _, HD4.out, by omega, HB4.out⟩
end Go.Proofs.Ytccgbkafcbfcgaa
end
section
namespace Go.Proofs.Ytccgbkafcbfcgaa
open Go.RowKit

set_option maxRecDepth 20000 in
set_option maxHeartbeats 4000000 in
theorem step_held (B b rb : Nat) (F : List Nat) (g : Nat) (m a s p ck : Int) (on : Bool) (A L : List Pr) (x : Pr) (w : World) (h : Duo8 B w b rb F g m a s p ck on A L) (hr : RightT m a s p) (i1 : In64 x.1) (hl : A.length < 8796093022208) :
    Calls Try.prog 12 #[.pointer (some ⟨b, 0, none⟩), .pointer (some ⟨rb, 0, none⟩), .agg #[.int .i64 3, .int .i64 x.1, .int .i64 x.2]] w fun e w' => e = .returned (.bool true) ∧ Stepped B w b rb m a s p (A.length + 1) w' := by
  obtain ⟨hN0, hB0⟩ := one_box w 37 [.int .i64 3, .int .i64 x.1, .int .i64 x.2]
  obtain ⟨W, hW⟩ : ∃ W, W = w.alloc (.cells #[.int .i64 3, .int .i64 x.1, .int .i64 x.2] 37) := ⟨_, rfl⟩
  rw [← hW] at hN0 hB0
  have hD := h.next hB0
  obtain ⟨nf, nr, ng⟩ := h.notF (n := w.heap.size) (Nat.le_refl _)
  have a0 := hN0.cell 0 _ rfl
  have a1 := hN0.cell 1 _ rfl
  have al := hN0.lt
  have HD := hid hD
  have HN := hid hN0
  have HBB := hid (show Below B w W from hB0.mono h.start)
  clear hD hN0 hB0 h
  go_enter Try.func12, Try.ntmps12
  go_upto_region 1 with fail
  rw [← hW]
  clear hW
  generalize w.heap.size = n at *
  by_cases hs : on = true ∧ x.1 < ck
  · obtain ⟨rfl, hck⟩ := hs
    go_wp2_with fail
    refine Calls.mono (wHeld_stale b F a s p ck L x.1 W HD.out.win hck) ?_
    rintro e w1 ⟨rfl, rfl⟩
    go_wp2_with fail
    refine Calls.mono (gRead_stale rb g m a s p ck A x.1 W HD.out.ref hck) ?_
    rintro e w3 ⟨rfl, hb3⟩
    have hb4 : Below W.heap.size W (w3.alloc (.cells #[.int .i64 0, .int .i64 0] 49)) := hb3.alloc hb3.size _
    have HD4 := hid (HD.out.next hb4)
    have HB4 := hid (HBB.out.trans (hb4.mono HD.out.start))
    clear hb3 hb4 a0 a1
    simp only [rv, r0]
    go_wp2_with fail
    go_ret
    exact ⟨rfl, F, g, ck, true, A, L, HD4.out, by omega, HB4.out⟩
  · have hlt : Later on ck x.1 := fun e => by
      rcases Int.lt_or_le x.1 ck with h1 | h1
      · exact absurd ⟨e, h1⟩ hs
      · exact h1
    have HL := hid hlt
    have hsame := HD.out.agree.same x.1 hlt
    generalize hy : toldOf a p (vals (heldOf s x.1 A)) = y
    have HY := hid hy
    have hML : (fresh s x.1 L).length < 4611686018427387904 := by have := fresh_len s x.1 L; have := HD.out.win.len; omega
    have HWH := hid (wHeld b F a s p ck on L x.1 W HD.out.win i1 hlt)
    have HAG := hid (HD.out.agree.read hlt)
    generalize hM : fresh s x.1 L = M at *
    have HSM := hid hsame
    clear hs hlt hy hsame hM
    go_wp2_with fail
    refine Calls.mono HWH.out ?_
    rintro e w1 ⟨ga, rfl, hga, hbx, g1⟩
    obtain ⟨F1, hH, hN1, nf1, hB1⟩ := HD.out.first g1 HN.out nf
    have d1 := hN1.cell 1 _ rfl
    have dl := hN1.lt
    have HH := hid hH
    have HN1 := hid hN1
    have HBX := hid hbx
    have HB1 := hid (HBB.out.trans hB1)
    obtain ⟨rl1, rl2⟩ := HD.out.ref.lt
    have ga1 : ga ≠ rb := by omega
    have ga2 : ga ≠ g := by omega
    clear hH hN1 hbx hB1 g1 a0 a1 HWH
    go_wp2_with fail
    refine Calls.mono (gRead rb g m a s p ck on A x.1 w1 HH.out.ref HL.out hl (HD.out.agree.all HL.out) i1 hr) ?_
    rw [HY.out]
    rintro e w3 ⟨rfl, g3⟩
    have hN3 : Box w3 n [.int .i64 3, .int .i64 x.1, .int .i64 x.2] := by
      obtain ⟨g', _, tt, _⟩ := g3
      exact HN1.out.turn tt (by simp [nr, ng])
    obtain ⟨g', hD3, hQ3, hB3⟩ := HH.out.second g3 HAG.out HBX.out ga1 ga2
    have hb4 : Below w3.heap.size w3 (w3.alloc (.cells #[.int .i64 y.1, .int .i64 y.2] 49)) := (Below.refl _ _).alloc (Nat.le_refl _) _
    obtain ⟨w4, hw4⟩ : ∃ w4, w4 = w3.alloc (.cells #[.int .i64 y.1, .int .i64 y.2] 49) := ⟨_, rfl⟩
    rw [← hw4] at hb4
    have hD4 := hD3.next hb4
    have hQ4 := hQ3.next hb4
    have hN4 := hN3.next hb4
    have HB4 := hid ((HB1.out.trans hB3).trans (hb4.mono hD3.start))
    clear d1 dl
    have e1 := hN4.cell 1 _ rfl
    have el := hN4.lt
    obtain ⟨lv, rbx, rsl⟩ := hD4.ref
    have rd := rsl.rd
    obtain ⟨ax, cx, hlv⟩ := rsl.shape
    subst hlv
    have r2 := rbx.cell 2 _ rfl
    have r4 := rbx.cell 4 _ rfl
    have rl := rbx.lt
    have HD4 := hid hD4
    have HQ4 := hid hQ4
    obtain ⟨-, -, -, s1, s2, -, -⟩ := hr
    have HFH := hid (fun k => fHeld _ A x.1 s (w4.drewN k) (rd.alike rfl) hl (fun z hz => ⟨(hD4.agree.le z hz).1, (hD4.agree.le z hz).2.1⟩) i1 s1 s2)
    clear hD3 hQ3 hB3 hb4 hD4 hQ4 hN4 rbx rsl rd g3 hN3
    simp only [rv]
    go_upto_region 14 with fail
    rw [← hw4]
    clear hw4
    go_region_with (first | (go_at_call 24; refine Calls.mono (HFH.out 1) ?_; rintro e w5 ⟨lv5, rfl, hpl5, hb5⟩; obtain ⟨a5, c5, hlv5⟩ := hpl5.shape; subst hlv5; have HP5 := hid hpl5.rd; have H5 := hid (show Below w4.heap.size w4 w5 from (drewN_below w4 1).trans hb5); clear hpl5 hb5) | (go_at_call 23; refine Calls.mono (same_sams _ _ M _ (box_rdp (HQ4.out.next H5.out) _) (by have h5 := HP5.out; rw [← HSM.out] at h5 ⊢; exact h5) hML) ?_; rintro e w6 ⟨rfl, hb6⟩; have H6 := hid hb6; clear hb6))
    all_goals go_wp2_with fail
    all_goals go_ret
    all_goals exact ⟨rfl, _, _, _, _, _, _, (HD4.out.next H5.out).next H6.out, by omega, (HB4.out.trans (H5.out.mono HD4.out.start)).trans (H6.out.mono (Nat.le_trans HD4.out.start H5.out.size))⟩
set_option maxRecDepth 20000 in
set_option maxHeartbeats 1000000 in
theorem step_none (B b rb : Nat) (F : List Nat) (g : Nat) (m a s p ck : Int) (on : Bool) (A L : List Pr) (kd : Int) (x : Pr) (w : World) (h : Duo8 B w b rb F g m a s p ck on A L) (h1 : kd ≠ 1) (h2 : kd ≠ 2) (h3 : kd ≠ 3) :
    Calls Try.prog 12 #[.pointer (some ⟨b, 0, none⟩), .pointer (some ⟨rb, 0, none⟩), .agg #[.int .i64 kd, .int .i64 x.1, .int .i64 x.2]] w fun e w' => e = .returned (.bool true) ∧ Stepped B w b rb m a s p (A.length + 1) w' := by
  obtain ⟨hN0, hB0⟩ := one_box w 37 [.int .i64 kd, .int .i64 x.1, .int .i64 x.2]
  have HD := hid (h.next hB0)
  have HBB := hid (hB0.mono h.start)
  have k1 : (kd == 1) = false := by simpa using h1
  have k2 : (kd == 2) = false := by simpa using h2
  have k3 : (kd == 3) = false := by simpa using h3
  have a0 := hN0.cell 0 _ rfl
  clear hN0 hB0 h h1 h2 h3
  go_enter Try.func12, Try.ntmps12
  go_wp2_with fail
  go_ret
  exact ⟨rfl, F, g, ck, on, A, L, HD.out, by omega, HBB.out⟩
theorem step_any (B b rb : Nat) (F : List Nat) (g : Nat) (m a s p ck : Int) (on : Bool) (A L : List Pr) (kd : Int) (x : Pr) (w : World) (h : Duo8 B w b rb F g m a s p ck on A L) (hr : RightT m a s p) (i1 : In64 x.1) (i2 : In64 x.2) (hl : A.length < 8796093022208) :
    Calls Try.prog 12 #[.pointer (some ⟨b, 0, none⟩), .pointer (some ⟨rb, 0, none⟩), .agg #[.int .i64 kd, .int .i64 x.1, .int .i64 x.2]] w fun e w' => e = .returned (.bool true) ∧ Stepped B w b rb m a s p (A.length + 1) w' := by
  by_cases h1 : kd = 1
  · subst h1; exact step_put B b rb F g m a s p ck on A L x w h i1 i2 hl
  · by_cases h2 : kd = 2
    · subst h2; exact step_read B b rb F g m a s p ck on A L x w h hr i1 hl
    · by_cases h3 : kd = 3
      · subst h3; exact step_held B b rb F g m a s p ck on A L x w h hr i1 hl
      · exact step_none B b rb F g m a s p ck on A L kd x w h h1 h2 h3
end Go.Proofs.Ytccgbkafcbfcgaa
end

/- A call on a window and then on the document's, stale or not: one answer. -/
import Derived.Test.YtccgbkafcbfcgaaMgF
namespace Go.Proofs.Ytccgbkafcbfcgaa
open Go.RowKit

/-- Is t stale? -/
abbrev stl (on : Bool) (ck t : Int) : Prop := on = true ∧ t < ck
/-- The clock then. -/
def ck2 (on : Bool) (ck t : Int) : Int := if stl on ck t then ck else t
/-- What a question answers, and its errno. -/
def ansOf (a p s : Int) (on : Bool) (ck t : Int) (A : List Pr) : (Int × Int) × Int := if stl on ck t then (r0, 32) else (toldOf a p (vals (heldOf s t A)), 0)
/-- What a sample answers; all samples then. -/
def erOf (on : Bool) (ck t : Int) : Int := if stl on ck t then 32 else 0
def takenOf (on : Bool) (ck : Int) (x : Pr) (A : List Pr) : List Pr := if stl on ck x.1 then A else A ++ [x]
theorem taken_len (on : Bool) (ck : Int) (x : Pr) (A : List Pr) : (takenOf on ck x A).length ≤ A.length + 1 := by
  unfold takenOf
  split
  · omega
  · simp
theorem not_stl {on : Bool} {ck t : Int} (h : ¬ stl on ck t) : on = true → ck ≤ t := fun e => by
  rcases Int.lt_or_le t ck with h1 | h1
  · exact absurd ⟨e, h1⟩ h
  · exact h1
/-- What isn't in F stays. -/
def Keeps (w : World) (F : List Nat) (w' : World) (F' : List Nat) : Prop := ∀ (n : Nat) (vs : List Value), Box w n vs → n ∉ F → Box w' n vs ∧ n ∉ F'
theorem keeps_of {w w' : World} {F F' : List Nat} (t : Turn F w w') (f : From w F F') : Keeps w F w' F' := fun n vs hn h => ⟨hn.turn t h, fun hm => (f n hm).elim h (fun e => by have := hn.lt; omega)⟩
/-- Behind the window's call. -/
def Mid8 (B : Nat) (w : World) (F : List Nat) (b rb g : Nat) (m a s p ck : Int) (on : Bool) (A : List Pr) (t : Int) (A' : List Pr) (w' : World) : Prop := ∃ F' L', Half B w' b rb F' g m a s p ck on A t L' ∧ Agree s t true A' L' ∧ Below B w w' ∧ Keeps w F w' F'
theorem mid_stale {B : Nat} {w w' : World} {b rb : Nat} {F : List Nat} {g : Nat} {m a s p ck : Int} {A L : List Pr} (h : Duo8 B w b rb F g m a s p ck true A L) (hb : Below w.heap.size w w') : Mid8 B w F b rb g m a s p ck true A ck A w' := by
  have h1 := h.next hb
  exact ⟨F, L, ⟨h1.win, h1.ref, h1.d1, h1.d2, h1.own, h1.o1, h1.o2, h1.start⟩, h1.agree, hb.mono h.start, fun n vs hn hf => ⟨hn.next hb, hf⟩⟩
theorem mid_gone {B : Nat} {w w' : World} {b rb : Nat} {F : List Nat} {g : Nat} {m a s p ck t : Int} {on : Bool} {A A' L L' : List Pr} (h : Duo8 B w b rb F g m a s p ck on A L) (gn : Gone w b F a s p t L' w') (ha : Agree s t true A' L') : Mid8 B w F b rb g m a s p ck on A t A' w' := by
  obtain ⟨l1, l2⟩ := h.ref.lt
  obtain ⟨F', h1, h2, h3⟩ := gn
  have hs := h.start
  exact ⟨F', L', ⟨h1, h.ref.turn h2 h.d1 h.d2, fun hm => (h3 rb hm).elim h.d1 (fun e => by omega), fun hm => (h3 g hm).elim h.d2 (fun e => by omega), fun i hi => (h3 i hi).elim (h.own i) (fun e => by omega), h.o1, h.o2, Nat.le_trans h.start h2.size⟩, ha, h2.below h.own h.start, keeps_of h2 h3⟩
theorem first_read (B b rb : Nat) (F : List Nat) (g : Nat) (m a s p ck : Int) (on : Bool) (A L : List Pr) (t : Int) (w : World) (h : Duo8 B w b rb F g m a s p ck on A L) (ht : In64 t) :
    Calls Try.prog 16 #[.pointer (some ⟨b, 0, none⟩), .int .i64 t] w fun e w' => e = .returned (.tuple #[rv (ansOf a p s on ck t A).1, .int .i64 (ansOf a p s on ck t A).2]) ∧ Mid8 B w F b rb g m a s p ck on A (ck2 on ck t) A w' := by
  by_cases hs : stl on ck t
  · rw [ansOf, ck2, if_pos hs, if_pos hs]
    obtain ⟨rfl, hck⟩ := hs
    exact (wRead_stale b F a s p ck L t w h.win hck).mono fun _ _ ⟨e, hb⟩ => ⟨e, mid_stale h hb⟩
  · rw [ansOf, ck2, if_neg hs, if_neg hs]
    have hl := not_stl hs
    refine (wRead b F a s p ck on L t w h.win ht hl).mono fun e w' ⟨he, hg⟩ => ⟨?_, mid_gone h hg (h.agree.read hl)⟩
    rw [he, h.agree.same t hl]
theorem first_put (B b rb : Nat) (F : List Nat) (g : Nat) (m a s p ck : Int) (on : Bool) (A L : List Pr) (x : Pr) (w : World) (h : Duo8 B w b rb F g m a s p ck on A L) (i1 : In64 x.1) (i2 : In64 x.2) :
    Calls Try.prog 14 #[.pointer (some ⟨b, 0, none⟩), .agg #[.int .i64 x.1, .int .i64 x.2]] w fun e w' => e = .returned (.int .i64 (erOf on ck x.1)) ∧ Mid8 B w F b rb g m a s p ck on A (ck2 on ck x.1) (takenOf on ck x A) w' := by
  by_cases hs : stl on ck x.1
  · rw [erOf, ck2, takenOf, if_pos hs, if_pos hs, if_pos hs]
    obtain ⟨rfl, hck⟩ := hs
    exact (wPut_stale b F a s p ck L x w h.win hck).mono fun _ _ ⟨e, hb⟩ => ⟨e, mid_stale h hb⟩
  · rw [erOf, ck2, takenOf, if_neg hs, if_neg hs, if_neg hs]
    have hl := not_stl hs
    exact (wPut b F a s p ck on L x w h.win i1 i2 hl).mono fun _ _ ⟨e, hg⟩ => ⟨e, mid_gone h hg (h.agree.put hl i1 i2)⟩
/-- Behind the document's call. -/
def End8 (B : Nat) (w : World) (b rb : Nat) (F : List Nat) (g : Nat) (m a s p t : Int) (A L : List Pr) (w' : World) : Prop := ∃ g', Duo8 B w' b rb F g' m a s p t true A L ∧ Below B w w' ∧ ∀ (n : Nat) (vs : List Value), Box w n vs → n ≠ rb → n ≠ g → Box w' n vs ∧ n ≠ g'
theorem end_stale {B : Nat} {w w' : World} {b rb : Nat} {F : List Nat} {g : Nat} {m a s p ck : Int} {A L : List Pr} (h : Half B w b rb F g m a s p ck true A ck L) (ha : Agree s ck true A L) (hb : Below w.heap.size w w') : End8 B w b rb F g m a s p ck A L w' := by
  have h1 := h.next hb
  exact ⟨g, ⟨h1.win, h1.ref, ha, h1.d1, h1.d2, h1.own, h1.o1, h1.o2, h1.start⟩, hb.mono h.start, fun n vs hn _ n2 => ⟨hn.next hb, n2⟩⟩
theorem end_gone {B : Nat} {w w' : World} {b rb : Nat} {F : List Nat} {g : Nat} {m a s p ck t : Int} {on : Bool} {A A' L : List Pr} (h : Half B w b rb F g m a s p ck on A t L) (gn : RfGone w rb g m a s p t A' w') (ha : Agree s t true A' L) : End8 B w b rb F g m a s p t A' L w' := by
  obtain ⟨g', h1, h2, h3⟩ := gn
  have hF : ∀ i, i ∈ F → i ∉ [rb, g] := fun i hi hm => by
    simp at hm
    rcases hm with rfl | rfl
    · exact h.d1 hi
    · exact h.d2 hi
  have hs := h.start
  refine ⟨g', ⟨h.win.turn h2 hF, h1, ha, h.d1, fun hm => ?_, h.own, h.o1, ?_, Nat.le_trans h.start h2.size⟩, h2.below (fun i hi => ?_) h.start, fun n vs hn n1 n2 => ⟨hn.turn h2 (by simp [n1, n2]), fun e => ?_⟩⟩
  · rcases h3 with rfl | h3
    · exact h.d2 hm
    · have := h.win.lt g' hm; omega
  · rcases h3 with rfl | h3
    · exact h.o2
    · omega
  · simp at hi
    rcases hi with rfl | rfl
    · exact h.o1
    · exact h.o2
  · rcases h3 with rfl | h3
    · exact n2 e
    · have := hn.lt; omega
theorem second_read (B b rb : Nat) (F : List Nat) (g : Nat) (m a s p ck : Int) (on : Bool) (A L L0 : List Pr) (t : Int) (w : World) (h : Half B w b rb F g m a s p ck on A (ck2 on ck t) L) (ha : Agree s (ck2 on ck t) true A L) (h0 : Agree s ck on A L0) (hr : RightT m a s p) (ht : In64 t) (hl : A.length < 8796093022208) :
    Calls Try.prog 17 #[.pointer (some ⟨rb, 0, none⟩), .int .i64 t] w fun e w' => e = .returned (.tuple #[rv (ansOf a p s on ck t A).1, .int .i64 (ansOf a p s on ck t A).2]) ∧ End8 B w b rb F g m a s p (ck2 on ck t) A L w' := by
  by_cases hs : stl on ck t
  · rw [ck2, if_pos hs] at h ha
    rw [ansOf, ck2, if_pos hs, if_pos hs]
    obtain ⟨rfl, hck⟩ := hs
    exact (gRead_stale rb g m a s p ck A t w h.ref hck).mono fun _ _ ⟨e, hb⟩ => ⟨e, end_stale h ha hb⟩
  · rw [ck2, if_neg hs] at h ha
    rw [ansOf, ck2, if_neg hs, if_neg hs]
    exact (gRead rb g m a s p ck on A t w h.ref (not_stl hs) hl (h0.all (not_stl hs)) ht hr).mono fun _ _ ⟨e, hg⟩ => ⟨e, end_gone h hg ha⟩
theorem second_put (B b rb : Nat) (F : List Nat) (g : Nat) (m a s p ck : Int) (on : Bool) (A L : List Pr) (x : Pr) (w : World) (h : Half B w b rb F g m a s p ck on A (ck2 on ck x.1) L) (ha : Agree s (ck2 on ck x.1) true (takenOf on ck x A) L) (hl : A.length < 8796093022208) :
    Calls Try.prog 15 #[.pointer (some ⟨rb, 0, none⟩), .agg #[.int .i64 x.1, .int .i64 x.2]] w fun e w' => e = .returned (.int .i64 (erOf on ck x.1)) ∧ End8 B w b rb F g m a s p (ck2 on ck x.1) (takenOf on ck x A) L w' := by
  by_cases hs : stl on ck x.1
  · rw [ck2, if_pos hs] at h ha
    rw [takenOf, if_pos hs] at ha
    rw [erOf, ck2, takenOf, if_pos hs, if_pos hs, if_pos hs]
    obtain ⟨rfl, hck⟩ := hs
    exact (fPut_stale rb g m a s p ck A x w h.ref hck).mono fun _ _ ⟨e, hb⟩ => ⟨e, end_stale h ha hb⟩
  · rw [ck2, if_neg hs] at h ha
    rw [takenOf, if_neg hs] at ha
    rw [erOf, ck2, takenOf, if_neg hs, if_neg hs, if_neg hs]
    exact (fPut rb g m a s p ck on A x w h.ref (not_stl hs) hl).mono fun _ _ ⟨e, hg⟩ => ⟨e, end_gone h hg ha⟩
end Go.Proofs.Ytccgbkafcbfcgaa

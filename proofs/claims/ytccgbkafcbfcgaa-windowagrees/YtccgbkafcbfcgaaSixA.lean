/- Six windows side by side, one of each aggregate. -/
import Derived.Test.YtccgbkafcbfcgaaWnH
namespace Go.Proofs.Ytccgbkafcbfcgaa
open Go.RowKit

/-- The rank of the window number j. -/
def perOf (j : Nat) : Int := if j = 5 then 100000000 else 0
/-- n windows at the blocks bs, of one span, each with blocks of its own; those below k are a step ahead. -/
structure Six (B : Nat) (w : World) (n : Nat) (bs : Nat → Nat) (Fs : Nat → List Nat) (span : Int) (k : Nat) (ck : Int) (on : Bool) (L : List Pr) (t : Int) (L' : List Pr) : Prop where
  old : ∀ j, j < n → k ≤ j → Win w (bs j) (Fs j) ((j : Int) + 1) span (perOf j) ck on L
  new : ∀ j, j < n → j < k → Win w (bs j) (Fs j) ((j : Int) + 1) span (perOf j) t true L'
  apart : ∀ i j, i < n → j < n → i ≠ j → ∀ x, x ∈ Fs i → x ∉ Fs j
  own : ∀ j, j < n → ∀ x, x ∈ Fs j → B ≤ x
  start : B ≤ w.heap.size
theorem Six.lt {B : Nat} {w : World} {n : Nat} {bs : Nat → Nat} {Fs : Nat → List Nat} {span : Int} {k : Nat} {ck : Int} {on : Bool} {L : List Pr} {t : Int} {L' : List Pr} (h : Six B w n bs Fs span k ck on L t L') {j : Nat} (hj : j < n) : ∀ x, x ∈ Fs j → x < w.heap.size := by
  rcases Nat.lt_or_ge j k with h1 | h1
  · exact (h.new j hj h1).lt
  · exact (h.old j hj h1).lt
theorem Six.turn {S : List Nat} {B : Nat} {w w' : World} {n : Nat} {bs : Nat → Nat} {Fs : Nat → List Nat} {span : Int} {k : Nat} {ck : Int} {on : Bool} {L : List Pr} {t : Int} {L' : List Pr} (h : Six B w n bs Fs span k ck on L t L') (tt : Turn S w w') (hS : ∀ j, j < n → ∀ x, x ∈ Fs j → x ∉ S) : Six B w' n bs Fs span k ck on L t L' :=
  ⟨fun j hj hk => (h.old j hj hk).turn tt (hS j hj), fun j hj hk => (h.new j hj hk).turn tt (hS j hj), h.apart, h.own, Nat.le_trans h.start tt.size⟩
theorem Six.next {B : Nat} {w w' : World} {n : Nat} {bs : Nat → Nat} {Fs : Nat → List Nat} {span : Int} {k : Nat} {ck : Int} {on : Bool} {L : List Pr} {t : Int} {L' : List Pr} (h : Six B w n bs Fs span k ck on L t L') (tt : Below w.heap.size w w') : Six B w' n bs Fs span k ck on L t L' := h.turn (S := []) (Turn.of_below tt) (by simp)
/-- The window number k steps. -/
theorem Six.step {B : Nat} {w w' : World} {n : Nat} {bs : Nat → Nat} {Fs : Nat → List Nat} {span : Int} {k : Nat} {ck : Int} {on : Bool} {L : List Pr} {t : Int} {L' : List Pr} (h : Six B w n bs Fs span k ck on L t L') (hk : k < n) (g : Gone w (bs k) (Fs k) ((k : Int) + 1) span (perOf k) t L' w') :
    ∃ Fs', Six B w' n bs Fs' span (k + 1) ck on L t L' ∧ Below B w w' ∧ ∀ (m : Nat), m < w.heap.size → (∀ j, j < n → m ∉ Fs j) → (∀ o, w'.cell? ⟨m, o, none⟩ = w.cell? ⟨m, o, none⟩) ∧ (∀ o, w'.frozen? ⟨m, o, none⟩ = w.frozen? ⟨m, o, none⟩) ∧ ∀ j, j < n → m ∉ Fs' j := by
  obtain ⟨F', h1, h2, h3⟩ := g
  have hs := h.start
  refine ⟨fun j => if j = k then F' else Fs j, ⟨fun j hj hkj => ?_, fun j hj hjk => ?_, fun i j hi hj hij x hx => ?_, fun j hj x hx => ?_, Nat.le_trans h.start h2.size⟩, h2.below (h.own k hk) h.start, fun m hm hf => ⟨fun o => h2.cell (p := ⟨m, o, none⟩) hm (hf k hk), fun o => h2.frozen (p := ⟨m, o, none⟩) hm (hf k hk), fun j hj => ?_⟩⟩
  · have hne : j ≠ k := by omega
    show Win w' (bs j) (if j = k then F' else Fs j) _ _ _ _ _ _
    rw [if_neg hne]
    exact (h.old j hj (by omega)).turn h2 (fun x hx => h.apart j k hj hk hne x hx)
  · show Win w' (bs j) (if j = k then F' else Fs j) _ _ _ _ _ _
    by_cases e : j = k
    · subst e; rw [if_pos rfl]; exact h1
    · rw [if_neg e]
      exact (h.new j hj (by omega)).turn h2 (fun x hx => h.apart j k hj hk e x hx)
  · have hx' : x ∈ (if i = k then F' else Fs i) := hx
    show x ∉ (if j = k then F' else Fs j)
    by_cases ei : i = k
    · subst ei
      rw [if_pos rfl] at hx'
      rw [if_neg (Ne.symm hij)]
      intro hxj
      rcases h3 x hx' with h4 | h4
      · exact h.apart i j hi hj hij x h4 hxj
      · have := h.lt hj x hxj; omega
    · rw [if_neg ei] at hx'
      by_cases ej : j = k
      · subst ej
        rw [if_pos rfl]
        intro hxj
        rcases h3 x hxj with h4 | h4
        · exact h.apart i j hi hj hij x hx' h4
        · have := h.lt hi x hx'; omega
      · rw [if_neg ej]
        exact h.apart i j hi hj hij x hx'
  · have hx' : x ∈ (if j = k then F' else Fs j) := hx
    by_cases e : j = k
    · subst e
      rw [if_pos rfl] at hx'
      exact (h3 x hx').elim (h.own j hj x) (fun e => by omega)
    · rw [if_neg e] at hx'
      exact h.own j hj x hx'
  · show m ∉ (if j = k then F' else Fs j)
    by_cases e : j = k
    · subst e
      rw [if_pos rfl]
      exact fun hmF => (h3 m hmF).elim (hf j hj) (fun e => by omega)
    · rw [if_neg e]; exact hf j hj
/-- All have stepped: a new beginning. -/
theorem Six.all {B : Nat} {w : World} {n : Nat} {bs : Nat → Nat} {Fs : Nat → List Nat} {span : Int} {ck : Int} {on : Bool} {L : List Pr} {t : Int} {L' : List Pr} (h : Six B w n bs Fs span n ck on L t L') (t2 : Int) (L2 : List Pr) : Six B w n bs Fs span 0 t true L' t2 L2 :=
  ⟨fun j hj _ => h.new j hj hj, fun j _ hk => by omega, h.apart, h.own, h.start⟩
/-- What comes is another's to say, as long as none has stepped. -/
theorem Six.zero {B : Nat} {w : World} {n : Nat} {bs : Nat → Nat} {Fs : Nat → List Nat} {span : Int} {ck : Int} {on : Bool} {L : List Pr} {t : Int} {L' : List Pr} (h : Six B w n bs Fs span 0 ck on L t L') (t2 : Int) (L2 : List Pr) : Six B w n bs Fs span 0 ck on L t2 L2 :=
  ⟨h.old, fun j _ hk => by omega, h.apart, h.own, h.start⟩
/-- One window more. -/
theorem Six.more {B : Nat} {w w' : World} {n : Nat} {bs : Nat → Nat} {Fs : Nat → List Nat} {span : Int} {t : Int} {L' : List Pr} (h : Six B w n bs Fs span 0 0 false [] t L') {b : Nat} {F : List Nat} (hb : Below w.heap.size w w') (hw : Win w' b F ((n : Int) + 1) span (perOf n) 0 false []) (hF : ∀ x, x ∈ F → w.heap.size ≤ x) :
    Six B w' (n + 1) (fun j => if j = n then b else bs j) (fun j => if j = n then F else Fs j) span 0 0 false [] t L' := by
  have h' := h.next hb
  have hs := h.start
  refine ⟨fun j hj _ => ?_, fun j _ hk => by omega, fun i j hi hj hij x hx => ?_, fun j hj x hx => ?_, h'.start⟩
  · show Win w' (if j = n then b else bs j) (if j = n then F else Fs j) _ _ _ _ _ _
    by_cases e : j = n
    · subst e; rw [if_pos rfl, if_pos rfl]; exact hw
    · rw [if_neg e, if_neg e]; exact h'.old j (by omega) (by omega)
  · have hx' : x ∈ (if i = n then F else Fs i) := hx
    show x ∉ (if j = n then F else Fs j)
    by_cases ei : i = n
    · subst ei
      rw [if_pos rfl] at hx'
      rw [if_neg (Ne.symm hij)]
      intro hxj
      have h1 := hF x hx'
      have h2 := h.lt (j := j) (by omega) x hxj
      omega
    · rw [if_neg ei] at hx'
      by_cases ej : j = n
      · subst ej
        rw [if_pos rfl]
        intro hxj
        have h1 := hF x hxj
        have h2 := h.lt (j := i) (by omega) x hx'
        omega
      · rw [if_neg ej]
        exact h.apart i j (by omega) (by omega) hij x hx'
  · have hx' : x ∈ (if j = n then F else Fs j) := hx
    by_cases e : j = n
    · subst e
      rw [if_pos rfl] at hx'
      have := hF x hx'
      omega
    · rw [if_neg e] at hx'
      exact h.own j (by omega) x hx'
theorem six_none (B : Nat) (w : World) (hB : B ≤ w.heap.size) (span t : Int) (L' : List Pr) : Six B w 0 (fun _ => 0) (fun _ => []) span 0 0 false [] t L' := ⟨fun j hj => by omega, fun j hj => by omega, fun i j hi => by omega, fun j hj => by omega, hB⟩
end Go.Proofs.Ytccgbkafcbfcgaa

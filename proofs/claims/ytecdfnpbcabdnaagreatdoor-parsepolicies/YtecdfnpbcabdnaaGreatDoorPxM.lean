/- Terms in memory, in blocks of a kind. -/
import Derived.Test.YtecdfnpbcabdnaaGreatDoorTrM
namespace Go.Proofs.YtecdfnpbcabdnaaGreatDoor
open Go.RowKit

/-- The term t, whose parts lie at v, lies in memory, in blocks of which Q is so. -/
def SitQ (Q : Nat → Prop) (z : Nat) (w : World) : Tm → Value → Prop
  | ⟨k, s, n, m, a, ps⟩, v => In64 k ∧ In64 n ∧ In64 m ∧ In64 a ∧ s.size ≤ z ∧ ∃ ad cap, v = .slice ad ps.length cap ∧ ps.length ≤ cap ∧ cap ≤ 9223372036854775807 ∧
      (ps.length = 0 ∨ ∃ b off, ad = some ⟨b, off, none⟩ ∧ b < w.heap.size ∧ Q b ∧ ∀ i (h : i < ps.length), ∃ u, Six w b (off + i * 6) ps[i] u ∧
        (have : SizeOf.sizeOf ps[i] < SizeOf.sizeOf ps := List.sizeOf_lt_of_mem (List.getElem_mem h); SitQ Q z w ps[i] u))
/-- The terms ps lie in the slice v, likewise. -/
def PAtQ (Q : Nat → Prop) (z : Nat) (w : World) (v : Value) (ps : List Tm) : Prop := ∃ ad cap, v = .slice ad ps.length cap ∧ ps.length ≤ cap ∧ cap ≤ 9223372036854775807 ∧
      (ps.length = 0 ∨ ∃ b off, ad = some ⟨b, off, none⟩ ∧ b < w.heap.size ∧ Q b ∧ ∀ i (h : i < ps.length), ∃ u, Six w b (off + i * 6) ps[i] u ∧ SitQ Q z w ps[i] u)
theorem sitq_iff {Q : Nat → Prop} {z : Nat} {w : World} {t : Tm} {v : Value} : SitQ Q z w t v ↔ Fit z t ∧ PAtQ Q z w v t.parts := by
  cases t
  rw [SitQ]
  exact ⟨fun ⟨a, b, c, d, e, f⟩ => ⟨⟨a, b, c, d, e⟩, f⟩, fun ⟨⟨a, b, c, d, e⟩, f⟩ => ⟨a, b, c, d, e, f⟩⟩
theorem SitQ.keep {Q Q' : Nat → Prop} {z : Nat} {w w' : World} (hs : w.heap.size ≤ w'.heap.size) (hk : ∀ b, b < w.heap.size → Q b → Q' b ∧ ∀ j, w'.cell? ⟨b, j, none⟩ = w.cell? ⟨b, j, none⟩) (t : Tm) : ∀ v, SitQ Q z w t v → SitQ Q' z w' t v := by
  induction t using Tm.ind with
  | h t ih =>
    intro v h
    rw [sitq_iff] at h ⊢
    obtain ⟨hf, ad, cap, hv, hl, hc, hp⟩ := h
    refine ⟨hf, ad, cap, hv, hl, hc, ?_⟩
    rcases hp with hp | ⟨b, off, ha, hb, hq, hp⟩
    · exact .inl hp
    · refine .inr ⟨b, off, ha, by omega, (hk b hb hq).1, fun i hi => ?_⟩
      obtain ⟨u, h6, hu⟩ := hp i hi
      exact ⟨u, h6.keep (fun j => (hk b hb hq).2 j), ih _ (List.getElem_mem hi) u hu⟩
theorem SitQ.sits {Q : Nat → Prop} {z : Nat} {w : World} (t : Tm) : ∀ v, SitQ Q z w t v → Sits z w t v := by
  induction t using Tm.ind with
  | h t ih =>
    intro v h
    rw [sitq_iff] at h
    rw [sits_iff]
    obtain ⟨hf, ad, cap, hv, hl, hc, hp⟩ := h
    refine ⟨hf, ad, cap, hv, hl, hc, ?_⟩
    rcases hp with hp | ⟨b, off, ha, hb, hq, hp⟩
    · exact .inl hp
    · refine .inr ⟨b, off, ha, by omega, fun i hi => ?_⟩
      obtain ⟨u, h6, hu⟩ := hp i hi
      exact ⟨u, h6, ih _ (List.getElem_mem hi) u hu⟩
theorem SitQ.weak {Q Q' : Nat → Prop} {z : Nat} {w : World} {t : Tm} {v : Value} (h : SitQ Q z w t v) (hk : ∀ b, b < w.heap.size → Q b → Q' b) : SitQ Q' z w t v :=
  SitQ.keep (Nat.le_refl _) (fun b hb hq => ⟨hk b hb hq, fun _ => rfl⟩) t v h
theorem SitQ.fit {Q : Nat → Prop} {z : Nat} {w : World} {t : Tm} {v : Value} (h : SitQ Q z w t v) : Fit z t := (sitq_iff.1 h).1
theorem SitQ.parts {Q : Nat → Prop} {z : Nat} {w : World} {t : Tm} {v : Value} (h : SitQ Q z w t v) : PAtQ Q z w v t.parts := (sitq_iff.1 h).2
theorem PAtQ.shape {Q : Nat → Prop} {z : Nat} {w : World} {v : Value} {ps : List Tm} (h : PAtQ Q z w v ps) : ∃ ad cap, v = .slice ad ps.length cap ∧ ps.length ≤ cap ∧ cap ≤ 9223372036854775807 := by
  obtain ⟨ad, cap, hv, hl, hc, _⟩ := h
  exact ⟨ad, cap, hv, hl, hc⟩
/-- New blocks alone: those from B on. -/
abbrev SitB (B : Nat) (z : Nat) (w : World) (t : Tm) (v : Value) : Prop := SitQ (fun b => B ≤ b) z w t v
theorem SitB.turn {S : List Nat} {B z : Nat} {w w' : World} {t : Tm} {v : Value} (h : SitB B z w t v) (k : Turn S w w') (hS : ∀ i ∈ S, i < B) : SitB B z w' t v :=
  SitQ.keep k.size (fun b hb hq => ⟨hq, fun j => by
    have := k.block b hb (fun hm => by have := hS b hm; omega)
    unfold World.cell?
    rw [this]⟩) t v h
theorem SitB.lower {B B' z : Nat} {w : World} {t : Tm} {v : Value} (h : SitB B z w t v) (hB : B' ≤ B) : SitB B' z w t v := h.weak (fun _ _ hq => Nat.le_trans hB hq)
/-- A leaf. -/
theorem sitb_leaf {Q : Nat → Prop} {z : Nat} {w : World} {t : Tm} (hf : Fit z t) (hp : t.parts = []) : SitQ Q z w t (.slice none 0 0) := by
  rw [sitq_iff]
  rw [hp]
  exact ⟨hf, none, 0, rfl, Nat.le_refl _, by decide, .inl rfl⟩
theorem SitQ.oneCell {Q : Nat → Prop} {z : Nat} {w : World} {t : Tm} {v : Value} (h : SitQ Q z w t v) : v.oneCell' = true := by
  obtain ⟨a, c, rfl, -, -⟩ := h.parts.shape
  cases a <;> rfl
/-- One part. -/
theorem sitb_one {B z : Nat} {w : World} {t x : Tm} {g : Nat} {u : Value} (hf : Fit z t) (hp : t.parts = [x]) (hg : g < w.heap.size) (hB : B ≤ g) (h6 : Six w g 0 x u) (hx : SitB B z w x u) : SitB B z w t (.slice (some ⟨g, 0, none⟩) 1 1) := by
  rw [SitB, sitq_iff, hp]
  refine ⟨hf, _, 1, rfl, Nat.le_refl _, by decide, .inr ⟨g, 0, rfl, hg, hB, fun i hi => ?_⟩⟩
  have h0 : i = 0 := by simpa using hi
  subst h0
  exact ⟨u, h6, hx⟩
theorem sitb_two {B z : Nat} {w : World} {t x y : Tm} {g : Nat} {u v : Value} (hf : Fit z t) (hp : t.parts = [x, y]) (hg : g < w.heap.size) (hB : B ≤ g) (h6 : Six w g 0 x u) (h7 : Six w g 6 y v) (hx : SitB B z w x u) (hy : SitB B z w y v) : SitB B z w t (.slice (some ⟨g, 0, none⟩) 2 2) := by
  rw [SitB, sitq_iff, hp]
  refine ⟨hf, _, 2, rfl, Nat.le_refl _, by decide, .inr ⟨g, 0, rfl, hg, hB, fun i hi => ?_⟩⟩
  have h0 : i = 0 ∨ i = 1 := by simp at hi; omega
  rcases h0 with rfl | rfl
  · exact ⟨u, h6, hx⟩
  · exact ⟨v, h7, hy⟩
end Go.Proofs.YtecdfnpbcabdnaaGreatDoor

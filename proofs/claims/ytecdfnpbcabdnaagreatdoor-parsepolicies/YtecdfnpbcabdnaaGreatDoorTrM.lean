/- Terms in memory: where a term's parts lie. -/
import Derived.Test.YtecdfnpbcabdnaaGreatDoorTrP
import Derived.Test.YtecdfnpbcabdnaaGreatDoorMoM
namespace Go.Proofs.YtecdfnpbcabdnaaGreatDoor
open Go.RowKit

def In64 (x : Int) : Prop := -9223372036854775808 ≤ x ∧ x ≤ 9223372036854775807
/-- A term as a value: its own fields, and where its parts lie. -/
abbrev tmV (t : Tm) (v : Value) : Value := .agg #[.int .i64 t.kind, .string t.text, .int .i64 t.n, .int .i64 t.m, .int .i64 t.pl, v]
abbrev tmL (t : Tm) (v : Value) : List Value := [.int .i64 t.kind, .string t.text, .int .i64 t.n, .int .i64 t.m, .int .i64 t.pl, v]
/-- Six cells from o on are a term. -/
structure Six (w : World) (b o : Nat) (t : Tm) (v : Value) : Prop where
  c0 : w.cell? ⟨b, o, none⟩ = some (.int .i64 t.kind)
  c1 : w.cell? ⟨b, o + 1, none⟩ = some (.string t.text)
  c2 : w.cell? ⟨b, o + 2, none⟩ = some (.int .i64 t.n)
  c3 : w.cell? ⟨b, o + 3, none⟩ = some (.int .i64 t.m)
  c4 : w.cell? ⟨b, o + 4, none⟩ = some (.int .i64 t.pl)
  c5 : w.cell? ⟨b, o + 5, none⟩ = some v
/-- The term t, whose parts lie at v, lies in memory; no text is longer than z. -/
def Sits (z : Nat) (w : World) : Tm → Value → Prop
  | ⟨k, s, n, m, a, ps⟩, v => In64 k ∧ In64 n ∧ In64 m ∧ In64 a ∧ s.size ≤ z ∧ ∃ ad cap, v = .slice ad ps.length cap ∧ ps.length ≤ cap ∧ cap ≤ 9223372036854775807 ∧
      (ps.length = 0 ∨ ∃ b off, ad = some ⟨b, off, none⟩ ∧ b < w.heap.size ∧ ∀ i (h : i < ps.length), ∃ u, Six w b (off + i * 6) ps[i] u ∧
        (have : SizeOf.sizeOf ps[i] < SizeOf.sizeOf ps := List.sizeOf_lt_of_mem (List.getElem_mem h); Sits z w ps[i] u))
/-- The own fields of a term are what Go may hold. -/
structure Fit (z : Nat) (t : Tm) : Prop where
  k : In64 t.kind
  n : In64 t.n
  m : In64 t.m
  a : In64 t.pl
  s : t.text.size ≤ z
/-- The terms l lie in the slice v. -/
def PAt (z : Nat) (w : World) (v : Value) (ps : List Tm) : Prop := ∃ ad cap, v = .slice ad ps.length cap ∧ ps.length ≤ cap ∧ cap ≤ 9223372036854775807 ∧
      (ps.length = 0 ∨ ∃ b off, ad = some ⟨b, off, none⟩ ∧ b < w.heap.size ∧ ∀ i (h : i < ps.length), ∃ u, Six w b (off + i * 6) ps[i] u ∧ Sits z w ps[i] u)
theorem sits_iff {z : Nat} {w : World} {t : Tm} {v : Value} : Sits z w t v ↔ Fit z t ∧ PAt z w v t.parts := by
  cases t
  rw [Sits]
  exact ⟨fun ⟨a, b, c, d, e, f⟩ => ⟨⟨a, b, c, d, e⟩, f⟩, fun ⟨⟨a, b, c, d, e⟩, f⟩ => ⟨a, b, c, d, e, f⟩⟩
theorem Six.keep {w w' : World} {b o : Nat} {t : Tm} {v : Value} (h : Six w b o t v) (hk : ∀ j, w'.cell? ⟨b, j, none⟩ = w.cell? ⟨b, j, none⟩) : Six w' b o t v :=
  ⟨(hk _).trans h.c0, (hk _).trans h.c1, (hk _).trans h.c2, (hk _).trans h.c3, (hk _).trans h.c4, (hk _).trans h.c5⟩
/-- What lies, lies on where no block of it turns: S are blocks that may turn and hold no term. -/
theorem Sits.keep {z : Nat} {w w' : World} (hs : w.heap.size ≤ w'.heap.size) (hk : ∀ b j, b < w.heap.size → w'.cell? ⟨b, j, none⟩ = w.cell? ⟨b, j, none⟩) (t : Tm) : ∀ v, Sits z w t v → Sits z w' t v := by
  induction t using Tm.ind with
  | h t ih =>
    intro v h
    rw [sits_iff] at h ⊢
    obtain ⟨hf, ad, cap, hv, hl, hc, hp⟩ := h
    refine ⟨hf, ad, cap, hv, hl, hc, ?_⟩
    rcases hp with hp | ⟨b, off, ha, hb, hp⟩
    · exact .inl hp
    · refine .inr ⟨b, off, ha, by omega, fun i hi => ?_⟩
      obtain ⟨u, h6, hu⟩ := hp i hi
      exact ⟨u, h6.keep (fun j => hk b j hb), ih _ (List.getElem_mem hi) u hu⟩
theorem Sits.next {z : Nat} {w w' : World} {t : Tm} {v : Value} (h : Sits z w t v) (hb : Below w.heap.size w w') : Sits z w' t v :=
  Sits.keep hb.size (fun b j hj => hb.cell (p := ⟨b, j, none⟩) hj) t v h
theorem PAt.next {z : Nat} {w w' : World} {ps : List Tm} {v : Value} (h : PAt z w v ps) (hb : Below w.heap.size w w') : PAt z w' v ps := by
  obtain ⟨ad, cap, hv, hl, hc, hp⟩ := h
  refine ⟨ad, cap, hv, hl, hc, ?_⟩
  rcases hp with hp | ⟨b, off, ha, hlt, hp⟩
  · exact .inl hp
  · refine .inr ⟨b, off, ha, Nat.lt_of_lt_of_le hlt hb.size, fun i hi => ?_⟩
    obtain ⟨u, h6, hu⟩ := hp i hi
    exact ⟨u, h6.keep (fun j => hb.cell (p := ⟨b, j, none⟩) hlt), hu.next hb⟩
theorem Sits.fit {z : Nat} {w : World} {t : Tm} {v : Value} (h : Sits z w t v) : Fit z t := (sits_iff.1 h).1
theorem Sits.parts {z : Nat} {w : World} {t : Tm} {v : Value} (h : Sits z w t v) : PAt z w v t.parts := (sits_iff.1 h).2
/-- A slice that is no slice: none, or what is known of one with elements. -/
theorem PAt.open {z : Nat} {w : World} {v : Value} {ps : List Tm} (h : PAt z w v ps) (hn : 0 < ps.length) : ∃ b off cap, v = .slice (some ⟨b, off, none⟩) ps.length cap ∧ ps.length ≤ cap ∧ cap ≤ 9223372036854775807 ∧ b < w.heap.size ∧
    ∀ i (h : i < ps.length), ∃ u, Six w b (off + i * 6) ps[i] u ∧ Sits z w ps[i] u := by
  obtain ⟨ad, cap, hv, hl, hc, hp⟩ := h
  rcases hp with hp | ⟨b, off, rfl, hlt, hp⟩
  · omega
  · exact ⟨b, off, cap, hv, hl, hc, hlt, hp⟩
theorem PAt.shape {z : Nat} {w : World} {v : Value} {ps : List Tm} (h : PAt z w v ps) : ∃ ad cap, v = .slice ad ps.length cap ∧ ps.length ≤ cap ∧ cap ≤ 9223372036854775807 := by
  obtain ⟨ad, cap, hv, hl, hc, _⟩ := h
  exact ⟨ad, cap, hv, hl, hc⟩
/-- Terms of a slice's middle. -/
theorem PAt.sub {z : Nat} {w : World} {b off len cap : Nat} {ps : List Tm} (h : PAt z w (.slice (some ⟨b, off, none⟩) len cap) ps) (lo n : Nat) (hn : lo + n ≤ ps.length) (hpos : 0 < n) : PAt z w (.slice (some ⟨b, off + lo * 6, none⟩) n (cap - lo)) ((ps.drop lo).take n) := by
  obtain ⟨b', off', cap', hv, hl, hc, hlt, hp⟩ := h.open (by omega)
  simp only [Value.slice.injEq, Option.some.injEq, Addr.mk.injEq, and_true] at hv
  obtain ⟨⟨rfl, rfl⟩, rfl, rfl⟩ := hv
  have hlen : ((ps.drop lo).take n).length = n := by simp; omega
  refine ⟨_, _, by rw [hlen], by omega, by omega, .inr ⟨b, _, rfl, hlt, fun i hi => ?_⟩⟩
  rw [hlen] at hi
  obtain ⟨u, h6, hu⟩ := hp (lo + i) (by omega)
  refine ⟨u, ?_, ?_⟩
  · have e : ((ps.drop lo).take n)[i]'(by omega) = ps[lo + i]'(by omega) := by simp
    rw [e, show off + lo * 6 + i * 6 = off + (lo + i) * 6 by omega]
    exact h6
  · have e : ((ps.drop lo).take n)[i]'(by omega) = ps[lo + i]'(by omega) := by simp
    rw [e]
    exact hu
end Go.Proofs.YtecdfnpbcabdnaaGreatDoor

/- Cores in memory: where a core's parts lie. -/
import Derived.Test.YtkhdcojgcnomgaaGreatDoorCoP
import Derived.Test.YtkhdcojgcnomgaaGreatDoorCoZ
namespace Go.Proofs.YtkhdcojgcnomgaaGreatDoor
open Go.RowKit

/-- What Go's int64 holds. -/
def C64 (x : Int) : Prop := -9223372036854775808 ≤ x ∧ x ≤ 9223372036854775807
/-- A core as a value: its own fields, and where its parts lie. -/
abbrev coV (t : Co) (v : Value) : Value := .agg #[.int .i64 t.op, .int .i64 t.n, .int .i64 t.m, v]
abbrev coL (t : Co) (v : Value) : List Value := [.int .i64 t.op, .int .i64 t.n, .int .i64 t.m, v]
/-- Four cells from o on are a core. -/
structure Four (w : World) (b o : Nat) (t : Co) (v : Value) : Prop where
  c0 : w.cell? ⟨b, o, none⟩ = some (.int .i64 t.op)
  c1 : w.cell? ⟨b, o + 1, none⟩ = some (.int .i64 t.n)
  c2 : w.cell? ⟨b, o + 2, none⟩ = some (.int .i64 t.m)
  c3 : w.cell? ⟨b, o + 3, none⟩ = some v
/-- The core t, whose parts lie at v, lies in memory. -/
def CSits (w : World) : Co → Value → Prop
  | ⟨k, n, m, ps⟩, v => C64 k ∧ C64 n ∧ C64 m ∧ ∃ ad cap, v = .slice ad ps.length cap ∧ ps.length ≤ cap ∧ cap ≤ 9223372036854775807 ∧
      (ps.length = 0 ∨ ∃ b off, ad = some ⟨b, off, none⟩ ∧ b < w.heap.size ∧ ∀ i (h : i < ps.length), ∃ u, Four w b (off + i * 4) ps[i] u ∧
        (have : SizeOf.sizeOf ps[i] < SizeOf.sizeOf ps := List.sizeOf_lt_of_mem (List.getElem_mem h); CSits w ps[i] u))
/-- The own fields of a core are what Go may hold. -/
structure CFit (t : Co) : Prop where
  k : C64 t.op
  n : C64 t.n
  m : C64 t.m
/-- The cores l lie in the slice v. -/
def CAt (w : World) (v : Value) (ps : List Co) : Prop := ∃ ad cap, v = .slice ad ps.length cap ∧ ps.length ≤ cap ∧ cap ≤ 9223372036854775807 ∧
      (ps.length = 0 ∨ ∃ b off, ad = some ⟨b, off, none⟩ ∧ b < w.heap.size ∧ ∀ i (h : i < ps.length), ∃ u, Four w b (off + i * 4) ps[i] u ∧ CSits w ps[i] u)
theorem csits_iff {w : World} {t : Co} {v : Value} : CSits w t v ↔ CFit t ∧ CAt w v t.parts := by
  cases t
  rw [CSits]
  exact ⟨fun ⟨a, b, c, f⟩ => ⟨⟨a, b, c⟩, f⟩, fun ⟨⟨a, b, c⟩, f⟩ => ⟨a, b, c, f⟩⟩
theorem Four.keep {w w' : World} {b o : Nat} {t : Co} {v : Value} (h : Four w b o t v) (hk : ∀ j, w'.cell? ⟨b, j, none⟩ = w.cell? ⟨b, j, none⟩) : Four w' b o t v :=
  ⟨(hk _).trans h.c0, (hk _).trans h.c1, (hk _).trans h.c2, (hk _).trans h.c3⟩
/-- What lies, lies on where no block of it turns: S are blocks that may turn and hold no core. -/
theorem CSits.keep {w w' : World} (hs : w.heap.size ≤ w'.heap.size) (hk : ∀ b j, b < w.heap.size → w'.cell? ⟨b, j, none⟩ = w.cell? ⟨b, j, none⟩) (t : Co) : ∀ v, CSits w t v → CSits w' t v := by
  induction t using Co.ind with
  | h t ih =>
    intro v h
    rw [csits_iff] at h ⊢
    obtain ⟨hf, ad, cap, hv, hl, hc, hp⟩ := h
    refine ⟨hf, ad, cap, hv, hl, hc, ?_⟩
    rcases hp with hp | ⟨b, off, ha, hb, hp⟩
    · exact .inl hp
    · refine .inr ⟨b, off, ha, by omega, fun i hi => ?_⟩
      obtain ⟨u, h6, hu⟩ := hp i hi
      exact ⟨u, h6.keep (fun j => hk b j hb), ih _ (List.getElem_mem hi) u hu⟩
theorem CSits.next {w w' : World} {t : Co} {v : Value} (h : CSits w t v) (hb : Below w.heap.size w w') : CSits w' t v :=
  CSits.keep hb.size (fun b j hj => hb.cell (p := ⟨b, j, none⟩) hj) t v h
theorem CAt.next {w w' : World} {ps : List Co} {v : Value} (h : CAt w v ps) (hb : Below w.heap.size w w') : CAt w' v ps := by
  obtain ⟨ad, cap, hv, hl, hc, hp⟩ := h
  refine ⟨ad, cap, hv, hl, hc, ?_⟩
  rcases hp with hp | ⟨b, off, ha, hlt, hp⟩
  · exact .inl hp
  · refine .inr ⟨b, off, ha, Nat.lt_of_lt_of_le hlt hb.size, fun i hi => ?_⟩
    obtain ⟨u, h6, hu⟩ := hp i hi
    exact ⟨u, h6.keep (fun j => hb.cell (p := ⟨b, j, none⟩) hlt), hu.next hb⟩
theorem CSits.fit {w : World} {t : Co} {v : Value} (h : CSits w t v) : CFit t := (csits_iff.1 h).1
theorem CSits.parts {w : World} {t : Co} {v : Value} (h : CSits w t v) : CAt w v t.parts := (csits_iff.1 h).2
/-- A slice that is no slice: none, or what is known of one with elements. -/
theorem CAt.open {w : World} {v : Value} {ps : List Co} (h : CAt w v ps) (hn : 0 < ps.length) : ∃ b off cap, v = .slice (some ⟨b, off, none⟩) ps.length cap ∧ ps.length ≤ cap ∧ cap ≤ 9223372036854775807 ∧ b < w.heap.size ∧
    ∀ i (h : i < ps.length), ∃ u, Four w b (off + i * 4) ps[i] u ∧ CSits w ps[i] u := by
  obtain ⟨ad, cap, hv, hl, hc, hp⟩ := h
  rcases hp with hp | ⟨b, off, rfl, hlt, hp⟩
  · omega
  · exact ⟨b, off, cap, hv, hl, hc, hlt, hp⟩
theorem CAt.shape {w : World} {v : Value} {ps : List Co} (h : CAt w v ps) : ∃ ad cap, v = .slice ad ps.length cap ∧ ps.length ≤ cap ∧ cap ≤ 9223372036854775807 := by
  obtain ⟨ad, cap, hv, hl, hc, _⟩ := h
  exact ⟨ad, cap, hv, hl, hc⟩
/-- Cores of a slice's middle. -/
theorem CAt.sub {w : World} {b off len cap : Nat} {ps : List Co} (h : CAt w (.slice (some ⟨b, off, none⟩) len cap) ps) (lo n : Nat) (hn : lo + n ≤ ps.length) (hpos : 0 < n) : CAt w (.slice (some ⟨b, off + lo * 4, none⟩) n (cap - lo)) ((ps.drop lo).take n) := by
  obtain ⟨b', off', cap', hv, hl, hc, hlt, hp⟩ := h.open (by omega)
  simp only [Value.slice.injEq, Option.some.injEq, Addr.mk.injEq, and_true] at hv
  obtain ⟨⟨rfl, rfl⟩, rfl, rfl⟩ := hv
  have hlen : ((ps.drop lo).take n).length = n := by simp; omega
  refine ⟨_, _, by rw [hlen], by omega, by omega, .inr ⟨b, _, rfl, hlt, fun i hi => ?_⟩⟩
  rw [hlen] at hi
  obtain ⟨u, h6, hu⟩ := hp (lo + i) (by omega)
  refine ⟨u, ?_, ?_⟩
  · have e : ((ps.drop lo).take n)[i]'(by omega) = ps[lo + i]'(by omega) := by simp
    rw [e, show off + lo * 4 + i * 4 = off + (lo + i) * 4 by omega]
    exact h6
  · have e : ((ps.drop lo).take n)[i]'(by omega) = ps[lo + i]'(by omega) := by simp
    rw [e]
    exact hu
end Go.Proofs.YtkhdcojgcnomgaaGreatDoor

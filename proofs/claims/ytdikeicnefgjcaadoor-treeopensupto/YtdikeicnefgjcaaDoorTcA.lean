/- Terms in new memory; each, with a function that copies. -/
import Derived.Test.YtdikeicnefgjcaaDoorTrW
import Derived.OwnWalk
import Derived.MakeChecks
namespace Go.Proofs.YtdikeicnefgjcaaDoor
open Go.RowKit

/-- The term t lies in memory, all of its parts in blocks from lo on. -/
def SitsL (lo z : Nat) (w : World) : Tm → Value → Prop
  | ⟨k, s, n, m, a, ps⟩, v => In64 k ∧ In64 n ∧ In64 m ∧ In64 a ∧ s.size ≤ z ∧ ∃ ad cap, v = .slice ad ps.length cap ∧ ps.length ≤ cap ∧ cap ≤ 9223372036854775807 ∧
      (ps.length = 0 ∨ ∃ b off, ad = some ⟨b, off, none⟩ ∧ b < w.heap.size ∧ lo ≤ b ∧ ∀ i (h : i < ps.length), ∃ u, Six w b (off + i * 6) ps[i] u ∧
        (have : SizeOf.sizeOf ps[i] < SizeOf.sizeOf ps := List.sizeOf_lt_of_mem (List.getElem_mem h); SitsL lo z w ps[i] u))
def PAtL (lo z : Nat) (w : World) (v : Value) (ps : List Tm) : Prop := ∃ ad cap, v = .slice ad ps.length cap ∧ ps.length ≤ cap ∧ cap ≤ 9223372036854775807 ∧
      (ps.length = 0 ∨ ∃ b off, ad = some ⟨b, off, none⟩ ∧ b < w.heap.size ∧ lo ≤ b ∧ ∀ i (h : i < ps.length), ∃ u, Six w b (off + i * 6) ps[i] u ∧ SitsL lo z w ps[i] u)
theorem sitsL_iff {lo z : Nat} {w : World} {t : Tm} {v : Value} : SitsL lo z w t v ↔ Fit z t ∧ PAtL lo z w v t.parts := by
  cases t
  rw [SitsL]
  exact ⟨fun ⟨a, b, c, d, e, f⟩ => ⟨⟨a, b, c, d, e⟩, f⟩, fun ⟨⟨a, b, c, d, e⟩, f⟩ => ⟨a, b, c, d, e, f⟩⟩
theorem SitsL.keep {lo lo' z : Nat} {w w' : World} (hlo : lo' ≤ lo) (hs : w.heap.size ≤ w'.heap.size) (hk : ∀ b j, lo ≤ b → b < w.heap.size → w'.cell? ⟨b, j, none⟩ = w.cell? ⟨b, j, none⟩) (t : Tm) : ∀ v, SitsL lo z w t v → SitsL lo' z w' t v := by
  induction t using Tm.ind with
  | h t ih =>
    intro v h
    rw [sitsL_iff] at h ⊢
    obtain ⟨hf, ad, cap, hv, hl, hc, hp⟩ := h
    refine ⟨hf, ad, cap, hv, hl, hc, ?_⟩
    rcases hp with hp | ⟨b, off, ha, hb, hbl, hp⟩
    · exact .inl hp
    · refine .inr ⟨b, off, ha, by omega, by omega, fun i hi => ?_⟩
      obtain ⟨u, h6, hu⟩ := hp i hi
      exact ⟨u, h6.keep (fun j => hk b j hbl hb), ih _ (List.getElem_mem hi) u hu⟩
theorem SitsL.sits {lo z : Nat} {w : World} (t : Tm) : ∀ v, SitsL lo z w t v → Sits z w t v := by
  induction t using Tm.ind with
  | h t ih =>
    intro v h
    rw [sitsL_iff] at h
    rw [sits_iff]
    obtain ⟨hf, ad, cap, hv, hl, hc, hp⟩ := h
    refine ⟨hf, ad, cap, hv, hl, hc, ?_⟩
    rcases hp with hp | ⟨b, off, ha, hb, hbl, hp⟩
    · exact .inl hp
    · refine .inr ⟨b, off, ha, hb, fun i hi => ?_⟩
      obtain ⟨u, h6, hu⟩ := hp i hi
      exact ⟨u, h6, ih _ (List.getElem_mem hi) u hu⟩
theorem SitsL.next {lo z : Nat} {w w' : World} {t : Tm} {v : Value} (h : SitsL lo z w t v) (hb : Below w.heap.size w w') : SitsL lo z w' t v :=
  SitsL.keep (Nat.le_refl _) hb.size (fun b j _ hj => hb.cell (p := ⟨b, j, none⟩) hj) t v h
theorem PAtL.pat {lo z : Nat} {w : World} {v : Value} {ps : List Tm} (h : PAtL lo z w v ps) : PAt z w v ps := by
  obtain ⟨ad, cap, hv, hl, hc, hp⟩ := h
  refine ⟨ad, cap, hv, hl, hc, ?_⟩
  rcases hp with hp | ⟨b, off, ha, hb, hbl, hp⟩
  · exact .inl hp
  · exact .inr ⟨b, off, ha, hb, fun i hi => by obtain ⟨u, h6, hu⟩ := hp i hi; exact ⟨u, h6, hu.sits⟩⟩
theorem PAtL.shape {lo z : Nat} {w : World} {v : Value} {ps : List Tm} (h : PAtL lo z w v ps) : ∃ ad cap, v = .slice ad ps.length cap := by
  obtain ⟨ad, cap, hv, _⟩ := h
  exact ⟨ad, cap, hv⟩
theorem PAtL.next {lo lo' z : Nat} {w w' : World} {ps : List Tm} {v : Value} (h : PAtL lo z w v ps) (hlo : lo' ≤ lo) (hb : Below w.heap.size w w') : PAtL lo' z w' v ps := by
  obtain ⟨ad, cap, hv, hl, hc, hp⟩ := h
  refine ⟨ad, cap, hv, hl, hc, ?_⟩
  rcases hp with hp | ⟨b, off, ha, hlt, hbl, hp⟩
  · exact .inl hp
  · refine .inr ⟨b, off, ha, Nat.lt_of_lt_of_le hlt hb.size, by omega, fun i hi => ?_⟩
    obtain ⟨u, h6, hu⟩ := hp i hi
    exact ⟨u, h6.keep (fun j => hb.cell (p := ⟨b, j, none⟩) hlt), SitsL.keep hlo hb.size (fun c j _ hj => hb.cell (p := ⟨c, j, none⟩) hj) _ _ hu⟩
/-- What a function that copies leaves. -/
def NewT (z : Nat) (t : Tm) (w : World) (e : Ending) (w' : World) : Prop := ∃ u, e = .returned (tmV t u) ∧ SitsL w.heap.size z w' t u ∧ Below w.heap.size w w'
def NewP (z : Nat) (ps : List Tm) (w : World) (e : Ending) (w' : World) : Prop := ∃ v, e = .returned v ∧ PAtL w.heap.size z w' v ps ∧ Below w.heap.size w w'
/-- Some terms lie at the front of a block already. -/
def Filled (z g : Nat) (ds : List Tm) (C : List Value) (w : World) : Prop := ∀ i (h : i < ds.length), ∃ u, (∀ q, q < 6 → C[i * 6 + q]? = (tmL ds[i] u)[q]?) ∧ SitsL (g + 1) z w ds[i] u
theorem Filled.nil (z g : Nat) (C : List Value) (w : World) : Filled z g [] C w := fun i h => by simp at h
def put6 (C : List Value) (o : Nat) (v0 v1 v2 v3 v4 v5 : Value) : List Value := (((((C.set o v0).set (o + 1) v1).set (o + 2) v2).set (o + 3) v3).set (o + 4) v4).set (o + 5) v5
theorem put6_length (C : List Value) (o : Nat) (v0 v1 v2 v3 v4 v5 : Value) : (put6 C o v0 v1 v2 v3 v4 v5).length = C.length := by simp [put6]
theorem put6_other {C : List Value} {o k : Nat} {v0 v1 v2 v3 v4 v5 : Value} (h : k < o) : (put6 C o v0 v1 v2 v3 v4 v5)[k]? = C[k]? := by
  unfold put6
  rw [List.getElem?_set_ne (by omega), List.getElem?_set_ne (by omega), List.getElem?_set_ne (by omega), List.getElem?_set_ne (by omega), List.getElem?_set_ne (by omega), List.getElem?_set_ne (by omega)]
theorem put6_in {C : List Value} {o : Nat} {v0 v1 v2 v3 v4 v5 : Value} (h : o + 5 < C.length) : ∀ q, q < 6 → (put6 C o v0 v1 v2 v3 v4 v5)[o + q]? = [v0, v1, v2, v3, v4, v5][q]? := by
  intro q hq
  unfold put6
  match q, hq with
  | 0, _ => show (_ : List Value)[o]? = _; rw [List.getElem?_set_ne (by omega), List.getElem?_set_ne (by omega), List.getElem?_set_ne (by omega), List.getElem?_set_ne (by omega), List.getElem?_set_ne (by omega), List.getElem?_set_self (by omega)]; rfl
  | 1, _ => show (_ : List Value)[o + 1]? = _; rw [List.getElem?_set_ne (by omega), List.getElem?_set_ne (by omega), List.getElem?_set_ne (by omega), List.getElem?_set_ne (by omega), List.getElem?_set_self (by simp; omega)]; rfl
  | 2, _ => show (_ : List Value)[o + 2]? = _; rw [List.getElem?_set_ne (by omega), List.getElem?_set_ne (by omega), List.getElem?_set_ne (by omega), List.getElem?_set_self (by simp; omega)]; rfl
  | 3, _ => show (_ : List Value)[o + 3]? = _; rw [List.getElem?_set_ne (by omega), List.getElem?_set_ne (by omega), List.getElem?_set_self (by simp; omega)]; rfl
  | 4, _ => show (_ : List Value)[o + 4]? = _; rw [List.getElem?_set_ne (by omega), List.getElem?_set_self (by simp; omega)]; rfl
  | 5, _ => show (_ : List Value)[o + 5]? = _; rw [List.getElem?_set_self (by simp; omega)]; rfl
theorem Box.put6 {w : World} {g : Nat} {C : List Value} (h : Box w g C) (o : Nat) (ho : o + 5 < C.length) (v0 v1 v2 v3 v4 v5 : Value) :
    Box ((((((w.setCell ⟨g, o, none⟩ v0).setCell ⟨g, o + 1, none⟩ v1).setCell ⟨g, o + 2, none⟩ v2).setCell ⟨g, o + 3, none⟩ v3).setCell ⟨g, o + 4, none⟩ v4).setCell ⟨g, o + 5, none⟩ v5) g (Go.Proofs.YtdikeicnefgjcaaDoor.put6 C o v0 v1 v2 v3 v4 v5) := by
  unfold Go.Proofs.YtdikeicnefgjcaaDoor.put6
  exact (((((h.set o (by omega) v0).set (o + 1) (by simp; omega) v1).set (o + 2) (by simp; omega) v2).set (o + 3) (by simp; omega) v3).set (o + 4) (by simp; omega) v4).set (o + 5) (by simp; omega) v5
theorem info_term : (Tryd.prog.info? 24).map (fun i => (i.zero, i.size, i.bytes)) = some (some (.agg #[.int .i64 0, .string ⟨#[]⟩, .int .i64 0, .int .i64 0, .int .i64 0, .slice none 0 0]), 6, 72) := by kernel_rfl
end Go.Proofs.YtdikeicnefgjcaaDoor

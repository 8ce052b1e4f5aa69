import Derived.Test.YtigldebdljfnbaaDoorBoxes
import Derived.Test.YtigldebdljfnbaaDoorMoM
section
namespace Go.Proofs.YtigldebdljfnbaaDoor

structure Co where
  op : Int
  n : Int
  m : Int
  parts : List Co
theorem Co.ind {p : Co → Prop} (h : ∀ t : Co, (∀ x, x ∈ t.parts → p x) → p t) : ∀ t, p t
  | ⟨_, _, _, _⟩ => h _ fun x _ => Co.ind h x
def cpord : Co → List Co
  | ⟨k, n, m, ps⟩ => ⟨k, n, m, ps⟩ :: (ps.map cpord).flatten
theorem cpord_eq (t : Co) : cpord t = t :: (t.parts.map cpord).flatten := by cases t; rw [cpord]
def cnodes (t : Co) : Nat := (cpord t).length
def cnodesL (l : List Co) : Nat := ((l.map cpord).flatten).length
theorem cnodes_eq (t : Co) : cnodes t = 1 + cnodesL t.parts := by unfold cnodes cnodesL; rw [cpord_eq t]; simp; omega
theorem cnodes_pos (t : Co) : 1 ≤ cnodes t := by rw [cnodes_eq]; omega
theorem cnodesL_nil : cnodesL [] = 0 := rfl
theorem cnodesL_cons (t : Co) (l : List Co) : cnodesL (t :: l) = cnodes t + cnodesL l := by simp [cnodesL, cnodes]
theorem cnodesL_append (l k : List Co) : cnodesL (l ++ k) = cnodesL l + cnodesL k := by simp [cnodesL]
theorem cnodesL_mem {l : List Co} {x : Co} (h : x ∈ l) : cnodes x ≤ cnodesL l := by
  induction l with
  | nil => cases h
  | cons y l ih =>
    rw [cnodesL_cons]
    rcases List.mem_cons.1 h with rfl | h
    · omega
    · have := ih h; omega
theorem cnodes_part {t x : Co} (h : x ∈ t.parts) : cnodes x < cnodes t := by
  have := cnodesL_mem h; rw [cnodes_eq t]; omega
theorem length_cnodesL (l : List Co) : l.length ≤ cnodesL l := by
  induction l with
  | nil => simp
  | cons y l ih => rw [cnodesL_cons]; have := cnodes_pos y; simp only [List.length_cons]; omega
theorem Co.same {a b : Co} : a = b ↔ a.op = b.op ∧ a.n = b.n ∧ a.m = b.m ∧ a.parts = b.parts := by
  cases a; cases b; simp
theorem csame_ex (a b : Co) : ∃ R : Bool, (R = true ↔ a = b) := by
  rcases Classical.em (a = b) with h | h
  · exact ⟨true, ⟨fun _ => h, fun _ => rfl⟩⟩
  · exact ⟨false, ⟨fun hh => absurd hh (by simp), fun hh => absurd hh h⟩⟩
theorem bfalse {R : Bool} {p : Prop} (h : R = true ↔ p) (hn : ¬ p) : R = false := by
  cases R with
  | false => rfl
  | true => exact absurd (h.1 rfl) hn
theorem btrue {R : Bool} {p : Prop} (h : R = true ↔ p) (hp : p) : R = true := h.2 hp
end Go.Proofs.YtigldebdljfnbaaDoor
end
section
namespace Go.Proofs.YtigldebdljfnbaaDoor
open Go.RowKit

theorem chid {p : Prop} (h : p) : Hid p := h
theorem cbelow_on {B : Nat} {w a b : World} (h : Below B w a) (k : Below a.heap.size a b) (hB : B ≤ a.heap.size) : Below B w b := h.trans (k.mono hB)
theorem cdrewN {B : Nat} {w a : World} (h : Below B w a) (k : Nat) : Below B w (a.drewN k) := ⟨h.os, h.tape, h.output, h.size, h.block⟩
theorem cturn_set (w : World) (g k : Nat) (v : Value) : Turn [g] w (w.setCell ⟨g, k, none⟩ v) := (Turn.refl [g] w).andSet _ _ (.inl (by simp))
theorem cturn_one {a b d : World} {g : Nat} (h : Turn [g] a b) (k : Turn [g] b d) : Turn [g] a d := h.trans k (fun _ hi => .inl hi)
theorem cturn_cell {S : List Nat} {w w' : World} (k : Turn S w w') {b j : Nat} (hb : b < w.heap.size) (hS : b ∉ S) : w'.cell? ⟨b, j, none⟩ = w.cell? ⟨b, j, none⟩ := by
  unfold World.cell?
  rw [k.block b hb hS]

def C64 (x : Int) : Prop := -9223372036854775808 ≤ x ∧ x ≤ 9223372036854775807
abbrev coV (t : Co) (v : Value) : Value := .agg #[.int .i64 t.op, .int .i64 t.n, .int .i64 t.m, v]
abbrev coL (t : Co) (v : Value) : List Value := [.int .i64 t.op, .int .i64 t.n, .int .i64 t.m, v]
structure Four (w : World) (b o : Nat) (t : Co) (v : Value) : Prop where
  c0 : w.cell? ⟨b, o, none⟩ = some (.int .i64 t.op)
  c1 : w.cell? ⟨b, o + 1, none⟩ = some (.int .i64 t.n)
  c2 : w.cell? ⟨b, o + 2, none⟩ = some (.int .i64 t.m)
  c3 : w.cell? ⟨b, o + 3, none⟩ = some v
def CSits (w : World) : Co → Value → Prop
  | ⟨k, n, m, ps⟩, v => C64 k ∧ C64 n ∧ C64 m ∧ ∃ ad cap, v = .slice ad ps.length cap ∧ ps.length ≤ cap ∧ cap ≤ 9223372036854775807 ∧
      (ps.length = 0 ∨ ∃ b off, ad = some ⟨b, off, none⟩ ∧ b < w.heap.size ∧ ∀ i (h : i < ps.length), ∃ u, Four w b (off + i * 4) ps[i] u ∧
        (have : SizeOf.sizeOf ps[i] < SizeOf.sizeOf ps := List.sizeOf_lt_of_mem (List.getElem_mem h); CSits w ps[i] u))
structure CFit (t : Co) : Prop where
  k : C64 t.op
  n : C64 t.n
  m : C64 t.m
def CAt (w : World) (v : Value) (ps : List Co) : Prop := ∃ ad cap, v = .slice ad ps.length cap ∧ ps.length ≤ cap ∧ cap ≤ 9223372036854775807 ∧
      (ps.length = 0 ∨ ∃ b off, ad = some ⟨b, off, none⟩ ∧ b < w.heap.size ∧ ∀ i (h : i < ps.length), ∃ u, Four w b (off + i * 4) ps[i] u ∧ CSits w ps[i] u)
theorem csits_iff {w : World} {t : Co} {v : Value} : CSits w t v ↔ CFit t ∧ CAt w v t.parts := by
  cases t
  rw [CSits]
  exact ⟨fun ⟨a, b, c, f⟩ => ⟨⟨a, b, c⟩, f⟩, fun ⟨⟨a, b, c⟩, f⟩ => ⟨a, b, c, f⟩⟩
theorem Four.keep {w w' : World} {b o : Nat} {t : Co} {v : Value} (h : Four w b o t v) (hk : ∀ j, w'.cell? ⟨b, j, none⟩ = w.cell? ⟨b, j, none⟩) : Four w' b o t v :=
  ⟨(hk _).trans h.c0, (hk _).trans h.c1, (hk _).trans h.c2, (hk _).trans h.c3⟩
theorem CSits.keep {w w' : World} (hs : w.heap.size ≤ w'.heap.size) (hk : ∀ b j, b < w.heap.size → w'.cell? ⟨b, j, none⟩ = w.cell? ⟨b, j, none⟩) (t : Co) : ∀ v, CSits w t v → CSits w' t v := by
  induction t using Co.ind with
  | h t ih =>
    intro v h
    rw [csits_iff] at h ⊢
    obtain ⟨hf, ad, cap, hv, hl, hc, hp⟩ := h
    refine ⟨hf, ad, cap, hv, hl, hc, ?_⟩
    rcases hp with hp | ⟨b, off, ha, hb, hp⟩
    · exact .inl hp
    · refine .inr ⟨b, off, ha, by omega, fun i hi => ?_⟩
      obtain ⟨u, h6, hu⟩ := hp i hi
      exact ⟨u, h6.keep (fun j => hk b j hb), ih _ (List.getElem_mem hi) u hu⟩
theorem CSits.next {w w' : World} {t : Co} {v : Value} (h : CSits w t v) (hb : Below w.heap.size w w') : CSits w' t v :=
  CSits.keep hb.size (fun b j hj => hb.cell (p := ⟨b, j, none⟩) hj) t v h
theorem CAt.next {w w' : World} {ps : List Co} {v : Value} (h : CAt w v ps) (hb : Below w.heap.size w w') : CAt w' v ps := by
  obtain ⟨ad, cap, hv, hl, hc, hp⟩ := h
  refine ⟨ad, cap, hv, hl, hc, ?_⟩
  rcases hp with hp | ⟨b, off, ha, hlt, hp⟩
  · exact .inl hp
  · refine .inr ⟨b, off, ha, Nat.lt_of_lt_of_le hlt hb.size, fun i hi => ?_⟩
    obtain ⟨u, h6, hu⟩ := hp i hi
    exact ⟨u, h6.keep (fun j => hb.cell (p := ⟨b, j, none⟩) hlt), hu.next hb⟩
theorem CSits.fit {w : World} {t : Co} {v : Value} (h : CSits w t v) : CFit t := (csits_iff.1 h).1
theorem CSits.parts {w : World} {t : Co} {v : Value} (h : CSits w t v) : CAt w v t.parts := (csits_iff.1 h).2
theorem CAt.open {w : World} {v : Value} {ps : List Co} (h : CAt w v ps) (hn : 0 < ps.length) : ∃ b off cap, v = .slice (some ⟨b, off, none⟩) ps.length cap ∧ ps.length ≤ cap ∧ cap ≤ 9223372036854775807 ∧ b < w.heap.size ∧
    ∀ i (h : i < ps.length), ∃ u, Four w b (off + i * 4) ps[i] u ∧ CSits w ps[i] u := by
  obtain ⟨ad, cap, hv, hl, hc, hp⟩ := h
  rcases hp with hp | ⟨b, off, rfl, hlt, hp⟩
  · omega
  · exact ⟨b, off, cap, hv, hl, hc, hlt, hp⟩
theorem CAt.shape {w : World} {v : Value} {ps : List Co} (h : CAt w v ps) : ∃ ad cap, v = .slice ad ps.length cap ∧ ps.length ≤ cap ∧ cap ≤ 9223372036854775807 := by
  obtain ⟨ad, cap, hv, hl, hc, _⟩ := h
  exact ⟨ad, cap, hv, hl, hc⟩

def crunV {σ : Type} (vs : σ → Co → σ × Bool) : List Co → σ → σ × Bool
  | [], s => (s, true)
  | t :: r, s => if (vs s t).2 = true then crunV vs r (vs s t).1 else ((vs s t).1, false)
theorem crunV_append {σ : Type} (vs : σ → Co → σ × Bool) : ∀ (a b : List Co) (s : σ), crunV vs (a ++ b) s = if (crunV vs a s).2 = true then crunV vs b (crunV vs a s).1 else ((crunV vs a s).1, false)
  | [], b, s => by simp [crunV]
  | t :: a, b, s => by
    rw [List.cons_append, crunV, crunV]
    by_cases h : (vs s t).2 = true
    · rw [if_pos h, if_pos h]; exact crunV_append vs a b _
    · rw [if_neg h, if_neg h]; simp
theorem cflat_take (l : List Co) (k : Nat) (hk : k < l.length) : ((l.take (k + 1)).map cpord).flatten = ((l.take k).map cpord).flatten ++ cpord l[k] := by
  rw [List.take_succ_eq_append_getElem hk]; simp only [List.map_append, List.flatten_append, List.map_cons, List.map_nil, List.flatten_cons, List.flatten_nil, List.append_nil]
theorem cflat_split (l : List Co) (k : Nat) (hk : k < l.length) : (l.map cpord).flatten = ((l.take k).map cpord).flatten ++ (cpord l[k] ++ ((l.drop (k + 1)).map cpord).flatten) := by
  have e : l = l.take k ++ (l[k] :: l.drop (k + 1)) := by rw [← List.drop_eq_getElem_cons hk, List.take_append_drop]
  conv => lhs; rw [e]
  simp only [List.map_append, List.flatten_append, List.map_cons, List.flatten_cons]
end Go.Proofs.YtigldebdljfnbaaDoor
end

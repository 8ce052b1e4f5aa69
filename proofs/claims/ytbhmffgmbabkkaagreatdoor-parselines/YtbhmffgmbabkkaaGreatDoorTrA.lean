/- Package tree: nodeOf, by the number of parts. -/
import Derived.Test.YtbhmffgmbabkkaaGreatDoorMgU
import Derived.Deep.QuietTactic
namespace Go.Proofs.YtbhmffgmbabkkaaGreatDoor
open Go.RowKit

abbrev hdA (t : Tm) : Array Value := #[.int .i64 t.kind, .string t.text, .int .i64 t.n, .int .i64 t.m]
abbrev leafV (t : Tm) : Value := .iface 147 (.agg #[.int .i64 t.kind, .string t.text, .int .i64 t.n, .int .i64 t.m])
abbrev singleV (t x : Tm) (a : Value) : Value := .iface 149 (.agg #[.int .i64 t.kind, .string t.text, .int .i64 t.n, .int .i64 t.m, .int .i64 x.kind, .string x.text, .int .i64 x.n, .int .i64 x.m, .int .i64 x.pl, a])
abbrev doubleV (t x y : Tm) (a b : Value) : Value := .iface 151 (.agg #[.int .i64 t.kind, .string t.text, .int .i64 t.n, .int .i64 t.m, .int .i64 x.kind, .string x.text, .int .i64 x.n, .int .i64 x.m, .int .i64 x.pl, a, .int .i64 y.kind, .string y.text, .int .i64 y.n, .int .i64 y.m, .int .i64 y.pl, b])
abbrev tripleV (t x y u : Tm) (a b c : Value) : Value := .iface 153 (.agg #[.int .i64 t.kind, .string t.text, .int .i64 t.n, .int .i64 t.m, .int .i64 x.kind, .string x.text, .int .i64 x.n, .int .i64 x.m, .int .i64 x.pl, a, .int .i64 y.kind, .string y.text, .int .i64 y.n, .int .i64 y.m, .int .i64 y.pl, b, .int .i64 u.kind, .string u.text, .int .i64 u.n, .int .i64 u.m, .int .i64 u.pl, c])
abbrev manyV (t x y : Tm) (a mid b : Value) : Value := .iface 155 (.agg #[.int .i64 t.kind, .string t.text, .int .i64 t.n, .int .i64 t.m, .int .i64 x.kind, .string x.text, .int .i64 x.n, .int .i64 x.m, .int .i64 x.pl, a, mid, .int .i64 y.kind, .string y.text, .int .i64 y.n, .int .i64 y.m, .int .i64 y.pl, b])
theorem below_drewN {B : Nat} {w a : World} (h : Below B w a) (k : Nat) : Below B w (a.drewN k) := ⟨h.os, h.tape, h.output, h.size, h.block⟩
def N1 (z : Nat) (t x : Tm) (w : World) (e : Ending) (w' : World) : Prop := ∃ a, e = .returned (singleV t x a) ∧ Sits z w x a ∧ Below w.heap.size w w'
def N2 (z : Nat) (t x y : Tm) (w : World) (e : Ending) (w' : World) : Prop := ∃ a b, e = .returned (doubleV t x y a b) ∧ Sits z w x a ∧ Sits z w y b ∧ Below w.heap.size w w'
def N3 (z : Nat) (t x y u : Tm) (w : World) (e : Ending) (w' : World) : Prop := ∃ a b c, e = .returned (tripleV t x y u a b c) ∧ Sits z w x a ∧ Sits z w y b ∧ Sits z w u c ∧ Below w.heap.size w w'
def N4 (z : Nat) (t x y : Tm) (l : List Tm) (w : World) (e : Ending) (w' : World) : Prop := ∃ a mid b, e = .returned (manyV t x y a mid b) ∧ Sits z w x a ∧ PAt z w mid l ∧ Sits z w y b ∧ Below w.heap.size w w'
theorem nodeOf_0 {z : Nat} (t : Tm) (v : Value) (w : World) (h : Sits z w t v) (hp : t.parts = []) : Calls Tryz.prog 80 #[tmV t v] w fun e w' => e = .returned (leafV t) ∧ Below w.heap.size w w' := by
  obtain ⟨ad, cap, rfl, -, -⟩ := h.parts.shape
  rw [hp]
  clear h hp
  go_enter Tryz.func80, Tryz.ntmps80
  go_wp2_with fail
  go_ret
  exact ⟨rfl, ((Below.refl _ _).alloc (Nat.le_refl _) _).alloc (by simp) _⟩
theorem nodeOf_1 {z : Nat} (t x : Tm) (v : Value) (w : World) (h : Sits z w t v) (hp : t.parts = [x]) : Calls Tryz.prog 80 #[tmV t v] w (N1 z t x w) := by
  obtain ⟨b, off, cap, rfl, hl, hc, hb, hx⟩ := h.parts.open (by rw [hp]; simp)
  obtain ⟨a, h6, ha⟩ := hx 0 (by rw [hp]; simp)
  simp only [hp, List.getElem_cons_zero, Nat.zero_mul, Nat.add_zero, List.length_singleton] at h6 ha hl ⊢
  obtain ⟨c0, c1, c2, c3, c4, c5⟩ := h6
  have HA := hid2 ha
  have n0 : b ≠ w.heap.size := by omega
  have n1 : b ≠ w.heap.size + 1 := by omega
  clear h hp hx ha
  go_enter Tryz.func80, Tryz.ntmps80
  go_wp2_with fail
  go_quiet (fail)
  go_wp2_with fail
  go_ret
  exact ⟨a, rfl, HA.out, below_drewN (((Below.refl _ _).alloc (Nat.le_refl _) _).alloc (by simp) _) _⟩
theorem nodeOf_2 {z : Nat} (t x y : Tm) (v : Value) (w : World) (h : Sits z w t v) (hp : t.parts = [x, y]) : Calls Tryz.prog 80 #[tmV t v] w (N2 z t x y w) := by
  obtain ⟨b, off, cap, rfl, hl, hc, hb, hx⟩ := h.parts.open (by rw [hp]; simp)
  obtain ⟨a, h6, ha⟩ := hx 0 (by rw [hp]; simp)
  obtain ⟨a1, h61, ha1⟩ := hx 1 (by rw [hp]; simp)
  simp only [hp, List.getElem_cons_zero, List.getElem_cons_succ, Nat.zero_mul, Nat.one_mul, Nat.add_zero, List.length_cons, List.length_nil] at h6 ha hl h61 ha1 ⊢
  obtain ⟨c0, c1, c2, c3, c4, c5⟩ := h6
  obtain ⟨d0, d1, d2, d3, d4, d5⟩ := h61
  simp only [Nat.add_assoc, Nat.reduceAdd] at c0 c1 c2 c3 c4 c5 d0 d1 d2 d3 d4 d5
  have HA := hid2 ha
  have HA1 := hid2 ha1
  have n0 : b ≠ w.heap.size := by omega
  have n1 : b ≠ w.heap.size + 1 := by omega
  clear h hp hx ha ha1
  go_enter Tryz.func80, Tryz.ntmps80
  go_wp2_with fail
  go_quiet (fail)
  go_wp2_with fail
  go_ret
  exact ⟨a, a1, rfl, HA.out, HA1.out, below_drewN (((Below.refl _ _).alloc (Nat.le_refl _) _).alloc (by simp) _) _⟩
theorem nodeOf_3 {z : Nat} (t x y u : Tm) (v : Value) (w : World) (h : Sits z w t v) (hp : t.parts = [x, y, u]) : Calls Tryz.prog 80 #[tmV t v] w (N3 z t x y u w) := by
  obtain ⟨b, off, cap, rfl, hl, hc, hb, hx⟩ := h.parts.open (by rw [hp]; simp)
  obtain ⟨a, h6, ha⟩ := hx 0 (by rw [hp]; simp)
  obtain ⟨a1, h61, ha1⟩ := hx 1 (by rw [hp]; simp)
  obtain ⟨a2, h62, ha2⟩ := hx 2 (by rw [hp]; simp)
  simp only [hp, List.getElem_cons_zero, List.getElem_cons_succ, Nat.zero_mul, Nat.one_mul, Nat.reduceMul, Nat.add_zero, List.length_cons, List.length_nil] at h6 ha hl h61 ha1 h62 ha2 ⊢
  obtain ⟨c0, c1, c2, c3, c4, c5⟩ := h6
  obtain ⟨d0, d1, d2, d3, d4, d5⟩ := h61
  obtain ⟨e0, e1, e2, e3, e4, e5⟩ := h62
  simp only [Nat.add_assoc, Nat.reduceAdd] at c0 c1 c2 c3 c4 c5 d0 d1 d2 d3 d4 d5 e0 e1 e2 e3 e4 e5
  have HA := hid2 ha
  have HA1 := hid2 ha1
  have HA2 := hid2 ha2
  have n0 : b ≠ w.heap.size := by omega
  have n1 : b ≠ w.heap.size + 1 := by omega
  clear h hp hx ha ha1 ha2
  go_enter Tryz.func80, Tryz.ntmps80
  go_wp2_with fail
  go_quiet (fail)
  go_wp2_with fail
  go_ret
  exact ⟨a, a1, a2, rfl, HA.out, HA1.out, HA2.out, below_drewN (((Below.refl _ _).alloc (Nat.le_refl _) _).alloc (by simp) _) _⟩
set_option maxHeartbeats 1000000 in
theorem nodeOf_4 {z : Nat} (t x y : Tm) (l : List Tm) (v : Value) (w : World) (h : Sits z w t v) (hp : t.parts = x :: (l ++ [y])) (h2 : 2 ≤ l.length) : Calls Tryz.prog 80 #[tmV t v] w (N4 z t x y l w) := by
  obtain ⟨b, off, cap, rfl, hl, hc, hb, hx⟩ := h.parts.open (by rw [hp]; simp)
  obtain ⟨M, hM, hM3⟩ : ∃ M, l.length = M - 1 ∧ 3 ≤ M := ⟨l.length + 1, by omega, by omega⟩
  have HM : Hid (PAt z w (.slice (some ⟨b, off + 6, none⟩) (M - 1) (cap - 1)) l) := by
    have := PAt.sub h.parts 1 l.length (by rw [hp]; simp; omega) (by omega)
    rw [hM] at this
    have e : (t.parts.drop 1).take (M - 1) = l := by rw [hp, ← hM]; simp
    rw [e, Nat.one_mul] at this
    exact this
  have hln : t.parts.length = M + 1 := by rw [hp]; simp; omega
  obtain ⟨a, h6, ha⟩ := hx 0 (by omega)
  obtain ⟨a1, h61, ha1⟩ := hx M (by omega)
  have e1 : t.parts[M]'(by omega) = y := by
    have : t.parts[M]? = some y := by
      rw [hp, show M = (M - 1) + 1 by omega, List.getElem?_cons_succ, ← hM]
      simp
    exact (List.getElem?_eq_some_iff.1 this).2
  have e0 : t.parts[0]'(by omega) = x := by simp [hp]
  rw [e0] at h6 ha
  rw [e1] at h61 ha1
  rw [hln] at hl ⊢
  simp only [Nat.zero_mul, Nat.add_zero] at h6
  obtain ⟨c0, c1, c2, c3, c4, c5⟩ := h6
  obtain ⟨d0, d1, d2, d3, d4, d5⟩ := h61
  have HA := hid2 ha
  have HA1 := hid2 ha1
  have n0 : b ≠ w.heap.size := by omega
  have n1 : b ≠ w.heap.size + 1 := by omega
  clear h hp hx ha ha1 e0 e1 hln h2 hM
  go_enter Tryz.func80, Tryz.ntmps80
  go_wp2_with fail
  go_quiet (fail)
  go_wp2_with fail
  go_ret
  exact ⟨a, _, a1, rfl, HA.out, HM.out, HA1.out, below_drewN (((Below.refl _ _).alloc (Nat.le_refl _) _).alloc (by simp) _) _⟩
end Go.Proofs.YtbhmffgmbabkkaaGreatDoor

/- A dimension and a unit as arguments: from what is read to the numbers, and back. -/
import Derived.Test.YtjmngnnmnbhfpaaDoorDimL
import Derived.WalkKit
import Derived.ProofKit
import Derived.LaidMore
namespace Go.Proofs.YtjmngnnmnbhfpaaDoor
open Go.RowKit Go.ChangeShapes Go.WideShapes

structure D5.Wf (x : D5) : Prop where
  a : (Lit.int .i64 x.a).wf = true
  b : (Lit.int .i64 x.b).wf = true
  c : (Lit.int .i64 x.c).wf = true
  d : (Lit.int .i64 x.d).wf = true
  e : (Lit.int .i64 x.e).wf = true
theorem D5.Wf.fits {x : D5} (h : x.Wf) : x.Fits := by
  have ha := bounds_i64 h.a
  have hb := bounds_i64 h.b
  have hc := bounds_i64 h.c
  have hd := bounds_i64 h.d
  have he := bounds_i64 h.e
  constructor <;> omega
abbrev dimD {H : Type} (x : D5) : DataW H := .agg [.lit (.int .i64 x.a), .lit (.int .i64 x.b), .lit (.int .i64 x.c), .lit (.int .i64 x.d), .lit (.int .i64 x.e)]
abbrev unitD {H : Type} (u : U5) : DataW H := .agg [.lit (.int .i64 u.num), .lit (.int .i64 u.den), dimD u.dim]
theorem list5 {α : Type} : ∀ (c : List α), c.length = 5 → ∃ v0 v1 v2 v3 v4, c = [v0, v1, v2, v3, v4]
  | [v0, v1, v2, v3, v4], _ => ⟨v0, v1, v2, v3, v4, rfl⟩
theorem list7 {α : Type} : ∀ (c : List α), c.length = 7 → ∃ v0 v1 v2 v3 v4 v5 v6, c = [v0, v1, v2, v3, v4, v5, v6]
  | [v0, v1, v2, v3, v4, v5, v6], _ => ⟨v0, v1, v2, v3, v4, v5, v6, rfl⟩

section
variable {H : Type} {enc : TypeId × Value → H} {W : World} {base : Nat} {sp : Nat → Bool} {held : Bool}

theorem trod_dim {fuel : Nat} {c : List Value} {d : DataW H} {ps : List MemPlace} (h : DataW.trod enc Tryd.prog W base sp held fuel 24 c = some (d, ps)) :
    ∃ x : D5, c = [.int .i64 x.a, .int .i64 x.b, .int .i64 x.c, .int .i64 x.d, .int .i64 x.e] ∧ d = dimD x ∧ ps = [] ∧ x.Wf := by
  obtain ⟨xs, m, rfl, hx, hl, hlen, hel⟩ := DataW.trod_array Tryd.underlying24 h
  rw [c24] at hl
  obtain ⟨v0, v1, v2, v3, v4, rfl⟩ := list5 c hl
  obtain ⟨z0, z1, z2, z3, z4, rfl⟩ := list5 xs hlen
  have f0 := hel 0 (by decide)
  have f1 := hel 1 (by decide)
  have f2 := hel 2 (by decide)
  have f3 := hel 3 (by decide)
  have f4 := hel 4 (by decide)
  simp only [c3, Nat.mul_one, List.drop_zero, List.take_succ_cons, List.take_zero, List.drop_succ_cons, List.getElem?_cons_zero, List.getElem?_cons_succ] at f0 f1 f2 f3 f4
  obtain ⟨a0, e0, rfl, w0⟩ := DataW.trod_int Tryd.underlying3 f0
  obtain ⟨a1, e1, rfl, w1⟩ := DataW.trod_int Tryd.underlying3 f1
  obtain ⟨a2, e2, rfl, w2⟩ := DataW.trod_int Tryd.underlying3 f2
  obtain ⟨a3, e3, rfl, w3⟩ := DataW.trod_int Tryd.underlying3 f3
  obtain ⟨a4, e4, rfl, w4⟩ := DataW.trod_int Tryd.underlying3 f4
  simp only [List.cons.injEq, and_true] at e0 e1 e2 e3 e4
  simp only [List.map_cons, List.map_nil, List.flatMap_cons, List.flatMap_nil, List.append_nil, Prod.mk.injEq] at hx
  exact ⟨⟨a0, a1, a2, a3, a4⟩, by rw [e0, e1, e2, e3, e4], hx.1, hx.2, ⟨w0, w1, w2, w3, w4⟩⟩
theorem dim_trod {m : Nat} {x : D5} (h : x.Wf) : DataW.trod enc Tryd.prog W base sp held (m + 1 + 1) 24 [.int .i64 x.a, .int .i64 x.b, .int .i64 x.c, .int .i64 x.d, .int .i64 x.e] = some (dimD x, []) := by
  rw [DataW.trod_step]
  unfold DataW.trodStep
  simp only [Tryd.underlying24]
  rw [if_pos (by rw [c24]; rfl), show List.range 5 = [0, 1, 2, 3, 4] from rfl, List.mapM_cons, List.mapM_cons, List.mapM_cons, List.mapM_cons, List.mapM_cons, List.mapM_nil]
  simp [c3, DataW.trod, Tryd.underlying3, h.a, h.b, h.c, h.d, h.e]

set_option maxRecDepth 10000 in
theorem open_dim {r : Reach} {b0 : Nat} {v : Value} {d : DataW H} {ps : List MemPlace} (hval : Value.okWide Tryd.prog W r b0 24 v) (hd : DataW.Trod enc Tryd.prog W base sp held 24 v d ps) :
    ∃ x : D5, v = dimV x ∧ d = dimD x ∧ ps = [] ∧ x.Wf := by
  simp only [Value.okWide, Tryd.underlying24] at hval
  obtain ⟨cs, rfl, _⟩ := hval
  obtain ⟨fuel, hf⟩ := hd
  obtain ⟨x, e, rfl, rfl, hx⟩ := trod_dim hf
  refine ⟨x, ?_, rfl, rfl, hx⟩
  obtain ⟨l⟩ := cs
  simp only [Value.cells] at e
  subst e
  rfl
theorem shut_dim {x : D5} (h : x.Wf) : DataW.Trod enc Tryd.prog W base sp held 24 (dimV x) (dimD x) [] := ⟨2, dim_trod (m := 0) h⟩

set_option maxRecDepth 10000 in
theorem open_unit {r : Reach} {b0 : Nat} {v : Value} {d : DataW H} {ps : List MemPlace} (hval : Value.okWide Tryd.prog W r b0 26 v) (hd : DataW.Trod enc Tryd.prog W base sp held 26 v d ps) :
    ∃ u : U5, v = unitV u ∧ d = unitD u ∧ ps = [] ∧ (Lit.int .i64 u.num).wf = true ∧ (Lit.int .i64 u.den).wf = true ∧ u.dim.Wf := by
  simp only [Value.okWide, Tryd.underlying26] at hval
  obtain ⟨cs, rfl, _⟩ := hval
  obtain ⟨fuel, hf⟩ := hd
  obtain ⟨xs, m, rfl, hx1, hl, hlen, hf⟩ := DataW.trod_struct Tryd.underlying26 hf
  obtain ⟨c⟩ := cs
  simp only [Value.cells] at hl hf
  rw [c26] at hl
  obtain ⟨v1, v2, v3, v4, v5, v6, v7, rfl⟩ := list7 c hl
  obtain ⟨z0, z1, z2, rfl⟩ := list3 xs hlen
  have f0 : DataW.trod enc Tryd.prog W base sp held m 2 (([v1, v2, v3, v4, v5, v6, v7].drop 0).take (Tryd.prog.cellsOf 2)) = [z0, z1, z2][0]? := hf 0 _ rfl
  have f1 : DataW.trod enc Tryd.prog W base sp held m 2 (([v1, v2, v3, v4, v5, v6, v7].drop 1).take (Tryd.prog.cellsOf 2)) = [z0, z1, z2][1]? := hf 1 _ rfl
  have f2 : DataW.trod enc Tryd.prog W base sp held m 24 (([v1, v2, v3, v4, v5, v6, v7].drop 2).take (Tryd.prog.cellsOf 24)) = [z0, z1, z2][2]? := hf 2 _ rfl
  simp only [c2, c24, List.drop_zero, List.take_succ_cons, List.take_zero, List.drop_succ_cons, List.getElem?_cons_zero, List.getElem?_cons_succ] at f0 f1 f2
  obtain ⟨a, ea, rfl, wa⟩ := DataW.trod_int Tryd.underlying2 f0
  obtain ⟨b, eb, rfl, wb⟩ := DataW.trod_int Tryd.underlying2 f1
  obtain ⟨zd, zp⟩ := z2
  obtain ⟨x, ex, rfl, rfl, hx⟩ := trod_dim f2
  simp only [List.cons.injEq, and_true] at ea eb ex
  obtain ⟨e3, e4, e5, e6, e7⟩ := ex
  simp only [List.map_cons, List.map_nil, List.flatMap_cons, List.flatMap_nil, List.append_nil, Prod.mk.injEq] at hx1
  exact ⟨⟨a, b, x⟩, by rw [ea, eb, e3, e4, e5, e6, e7], hx1.1, hx1.2, wa, wb, hx⟩
theorem shut_unit {u : U5} (ha : (Lit.int .i64 u.num).wf = true) (hb : (Lit.int .i64 u.den).wf = true) (h : u.dim.Wf) : DataW.Trod enc Tryd.prog W base sp held 26 (unitV u) (unitD u) [] :=
  ⟨3, by
    have hd : DataW.trod enc Tryd.prog W base sp held 2 24 [.int .i64 u.dim.a, .int .i64 u.dim.b, .int .i64 u.dim.c, .int .i64 u.dim.d, .int .i64 u.dim.e] = some (dimD u.dim, []) := dim_trod (m := 0) h
    have h1 : DataW.trod enc Tryd.prog W base sp held 2 2 [.int .i64 u.num] = some (.lit (.int .i64 u.num), []) := by simp [DataW.trod, Tryd.underlying2, ha]
    have h2 : DataW.trod enc Tryd.prog W base sp held 2 2 [.int .i64 u.den] = some (.lit (.int .i64 u.den), []) := by simp [DataW.trod, Tryd.underlying2, hb]
    have := trod_struct_mk (enc := enc) (P := Tryd.prog) (w := W) (base := base) (spare := sp) (held := held) (n := 2) (cs := [.int .i64 u.num, .int .i64 u.den, .int .i64 u.dim.a, .int .i64 u.dim.b, .int .i64 u.dim.c, .int .i64 u.dim.d, .int .i64 u.dim.e])
      (xs := [(.lit (.int .i64 u.num), []), (.lit (.int .i64 u.den), []), (dimD u.dim, [])]) Tryd.underlying26 (by rw [c26]; rfl) (by simp [c2, c24, hd, h1, h2])
    show DataW.trod enc Tryd.prog W base sp held 3 26 [.int .i64 u.num, .int .i64 u.den, .int .i64 u.dim.a, .int .i64 u.dim.b, .int .i64 u.dim.c, .int .i64 u.dim.d, .int .i64 u.dim.e] = _
    simpa using this⟩
end
end Go.Proofs.YtjmngnnmnbhfpaaDoor

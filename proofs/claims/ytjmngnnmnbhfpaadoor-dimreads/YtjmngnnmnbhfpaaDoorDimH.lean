/- Dimensions as the proofs see them: five numbers, where they lie in memory, and what joining them comes to. -/
import Derived.Test.YtjmngnnmnbhfpaaDoorFixAS
import Derived.BigQuiet
namespace Go.Proofs.YtjmngnnmnbhfpaaDoor
open Go.RowKit

/-- A dimension: five exponents. -/
structure D5 where
  a : Int
  b : Int
  c : Int
  d : Int
  e : Int
/-- As a Go value. -/
abbrev dimV (x : D5) : Value := .agg #[.int .i64 x.a, .int .i64 x.b, .int .i64 x.c, .int .i64 x.d, .int .i64 x.e]
/-- All five are int64. -/
structure D5.Fits (x : D5) : Prop where
  a0 : -9223372036854775808 ≤ x.a
  a1 : x.a < 9223372036854775808
  b0 : -9223372036854775808 ≤ x.b
  b1 : x.b < 9223372036854775808
  c0 : -9223372036854775808 ≤ x.c
  c1 : x.c < 9223372036854775808
  d0 : -9223372036854775808 ≤ x.d
  d1 : x.d < 9223372036854775808
  e0 : -9223372036854775808 ≤ x.e
  e1 : x.e < 9223372036854775808

/-- The block g holds these five, and may be written. -/
structure Box5 (w : World) (g : Nat) (a b c d e : Int) : Prop where
  c0 : w.cell? ⟨g, 0, none⟩ = some (.int .i64 a)
  c1 : w.cell? ⟨g, 1, none⟩ = some (.int .i64 b)
  c2 : w.cell? ⟨g, 2, none⟩ = some (.int .i64 c)
  c3 : w.cell? ⟨g, 3, none⟩ = some (.int .i64 d)
  c4 : w.cell? ⟨g, 4, none⟩ = some (.int .i64 e)
  f0 : w.frozen? ⟨g, 0, none⟩ = false
  f1 : w.frozen? ⟨g, 1, none⟩ = false
  f2 : w.frozen? ⟨g, 2, none⟩ = false
  f3 : w.frozen? ⟨g, 3, none⟩ = false
  f4 : w.frozen? ⟨g, 4, none⟩ = false
theorem Box5.keep {w w' : World} {g : Nat} {a b c d e : Int} (h : Box5 w g a b c d e) (k : ∀ i, w'.cell? ⟨g, i, none⟩ = w.cell? ⟨g, i, none⟩ ∧ w'.frozen? ⟨g, i, none⟩ = w.frozen? ⟨g, i, none⟩) : Box5 w' g a b c d e :=
  ⟨(k 0).1.trans h.c0, (k 1).1.trans h.c1, (k 2).1.trans h.c2, (k 3).1.trans h.c3, (k 4).1.trans h.c4, (k 0).2.trans h.f0, (k 1).2.trans h.f1, (k 2).2.trans h.f2, (k 3).2.trans h.f3, (k 4).2.trans h.f4⟩
theorem Box5.later {w w' : World} {g s : Nat} {a b c d e : Int} (h : Box5 w g a b c d e) (hb : Below s w w') (hg : g < s) : Box5 w' g a b c d e :=
  h.keep fun i => ⟨hb.cell (p := ⟨g, i, none⟩) hg, hb.frozen (p := ⟨g, i, none⟩) hg⟩
theorem Box5.other {w : World} {g q j : Nat} {v : Value} {a b c d e : Int} (h : Box5 w g a b c d e) (hg : g ≠ q) : Box5 (w.setCell ⟨q, j, none⟩ v) g a b c d e :=
  h.keep fun i => ⟨World.cell?_setCell_other _ _ _ _ (by intro e'; cases e'; exact hg rfl), World.frozen?_setCell _ _ _ _⟩

theorem Box5.set0 {w : World} {g : Nat} {a b c d e : Int} (h : Box5 w g a b c d e) (v : Int) : Box5 (w.setCell ⟨g, 0, none⟩ (.int .i64 v)) g v b c d e :=
  ⟨World.cell?_setCell_same _ _ _ h.c0, (World.cell?_setCell_other _ _ _ _ (by simp)).trans h.c1, (World.cell?_setCell_other _ _ _ _ (by simp)).trans h.c2, (World.cell?_setCell_other _ _ _ _ (by simp)).trans h.c3, (World.cell?_setCell_other _ _ _ _ (by simp)).trans h.c4, (World.frozen?_setCell _ _ _ _).trans h.f0, (World.frozen?_setCell _ _ _ _).trans h.f1, (World.frozen?_setCell _ _ _ _).trans h.f2, (World.frozen?_setCell _ _ _ _).trans h.f3, (World.frozen?_setCell _ _ _ _).trans h.f4⟩
theorem Box5.set1 {w : World} {g : Nat} {a b c d e : Int} (h : Box5 w g a b c d e) (v : Int) : Box5 (w.setCell ⟨g, 1, none⟩ (.int .i64 v)) g a v c d e :=
  ⟨(World.cell?_setCell_other _ _ _ _ (by simp)).trans h.c0, World.cell?_setCell_same _ _ _ h.c1, (World.cell?_setCell_other _ _ _ _ (by simp)).trans h.c2, (World.cell?_setCell_other _ _ _ _ (by simp)).trans h.c3, (World.cell?_setCell_other _ _ _ _ (by simp)).trans h.c4, (World.frozen?_setCell _ _ _ _).trans h.f0, (World.frozen?_setCell _ _ _ _).trans h.f1, (World.frozen?_setCell _ _ _ _).trans h.f2, (World.frozen?_setCell _ _ _ _).trans h.f3, (World.frozen?_setCell _ _ _ _).trans h.f4⟩
theorem Box5.set2 {w : World} {g : Nat} {a b c d e : Int} (h : Box5 w g a b c d e) (v : Int) : Box5 (w.setCell ⟨g, 2, none⟩ (.int .i64 v)) g a b v d e :=
  ⟨(World.cell?_setCell_other _ _ _ _ (by simp)).trans h.c0, (World.cell?_setCell_other _ _ _ _ (by simp)).trans h.c1, World.cell?_setCell_same _ _ _ h.c2, (World.cell?_setCell_other _ _ _ _ (by simp)).trans h.c3, (World.cell?_setCell_other _ _ _ _ (by simp)).trans h.c4, (World.frozen?_setCell _ _ _ _).trans h.f0, (World.frozen?_setCell _ _ _ _).trans h.f1, (World.frozen?_setCell _ _ _ _).trans h.f2, (World.frozen?_setCell _ _ _ _).trans h.f3, (World.frozen?_setCell _ _ _ _).trans h.f4⟩
theorem Box5.set3 {w : World} {g : Nat} {a b c d e : Int} (h : Box5 w g a b c d e) (v : Int) : Box5 (w.setCell ⟨g, 3, none⟩ (.int .i64 v)) g a b c v e :=
  ⟨(World.cell?_setCell_other _ _ _ _ (by simp)).trans h.c0, (World.cell?_setCell_other _ _ _ _ (by simp)).trans h.c1, (World.cell?_setCell_other _ _ _ _ (by simp)).trans h.c2, World.cell?_setCell_same _ _ _ h.c3, (World.cell?_setCell_other _ _ _ _ (by simp)).trans h.c4, (World.frozen?_setCell _ _ _ _).trans h.f0, (World.frozen?_setCell _ _ _ _).trans h.f1, (World.frozen?_setCell _ _ _ _).trans h.f2, (World.frozen?_setCell _ _ _ _).trans h.f3, (World.frozen?_setCell _ _ _ _).trans h.f4⟩
theorem Box5.set4 {w : World} {g : Nat} {a b c d e : Int} (h : Box5 w g a b c d e) (v : Int) : Box5 (w.setCell ⟨g, 4, none⟩ (.int .i64 v)) g a b c d v :=
  ⟨(World.cell?_setCell_other _ _ _ _ (by simp)).trans h.c0, (World.cell?_setCell_other _ _ _ _ (by simp)).trans h.c1, (World.cell?_setCell_other _ _ _ _ (by simp)).trans h.c2, (World.cell?_setCell_other _ _ _ _ (by simp)).trans h.c3, World.cell?_setCell_same _ _ _ h.c4, (World.frozen?_setCell _ _ _ _).trans h.f0, (World.frozen?_setCell _ _ _ _).trans h.f1, (World.frozen?_setCell _ _ _ _).trans h.f2, (World.frozen?_setCell _ _ _ _).trans h.f3, (World.frozen?_setCell _ _ _ _).trans h.f4⟩

abbrev In8 (n : Int) : Prop := -8 ≤ n ∧ n ≤ 8
theorem held_in8 (n : Int) (h : In8 n) : held n = n := held_in n (by have := h.1; omega) (by have := h.2; omega)
theorem held_out8 (n : Int) (h : ¬ In8 n) : 8 < held n ∨ (¬ 8 < held n ∧ held n < -8) := by
  unfold held In8 at *
  split
  · omega
  · split <;> omega

def joinS (f : Int → Int → Int) (x y : D5) : Option D5 :=
  if In8 (f x.a y.a) ∧ In8 (f x.b y.b) ∧ In8 (f x.c y.c) ∧ In8 (f x.d y.d) ∧ In8 (f x.e y.e) then some ⟨f x.a y.a, f x.b y.b, f x.c y.c, f x.d y.d, f x.e y.e⟩ else none
def dim0 : D5 := ⟨0, 0, 0, 0, 0⟩
def joinV (o : Option D5) : Value := .tuple #[dimV (o.getD dim0), .bool o.isSome]

/-- What join finds in memory. -/
structure JM (B : Nat) (x y : D5) (a b c d e : Int) (w : World) : Prop where
  x : Box5 w B x.a x.b x.c x.d x.e
  y : Box5 w (B + 1) y.a y.b y.c y.d y.e
  o : Box5 w (B + 1 + 1) 0 0 0 0 0
  r : Box5 w (B + 1 + 1 + 1) a b c d e
  sz : B + 1 + 1 + 1 < w.heap.size
theorem JM.later {B : Nat} {x y : D5} {a b c d e : Int} {w w' : World} (h : JM B x y a b c d e w) (hb : Below w.heap.size w w') : JM B x y a b c d e w' := by
  have := h.sz
  exact ⟨h.x.later hb (by omega), h.y.later hb (by omega), h.o.later hb (by omega), h.r.later hb (by omega), Nat.lt_of_lt_of_le h.sz hb.size⟩

theorem JM.put0 {B : Nat} {x y : D5} {a b c d e : Int} {w : World} (h : JM B x y a b c d e w) (v : Int) : JM B x y v b c d e (w.setCell ⟨B + 1 + 1 + 1, 0, none⟩ (.int .i64 v)) :=
  ⟨h.x.other (by omega), h.y.other (by omega), h.o.other (by omega), h.r.set0 v, by simpa using h.sz⟩
theorem JM.put1 {B : Nat} {x y : D5} {a b c d e : Int} {w : World} (h : JM B x y a b c d e w) (v : Int) : JM B x y a v c d e (w.setCell ⟨B + 1 + 1 + 1, 1, none⟩ (.int .i64 v)) :=
  ⟨h.x.other (by omega), h.y.other (by omega), h.o.other (by omega), h.r.set1 v, by simpa using h.sz⟩
theorem JM.put2 {B : Nat} {x y : D5} {a b c d e : Int} {w : World} (h : JM B x y a b c d e w) (v : Int) : JM B x y a b v d e (w.setCell ⟨B + 1 + 1 + 1, 2, none⟩ (.int .i64 v)) :=
  ⟨h.x.other (by omega), h.y.other (by omega), h.o.other (by omega), h.r.set2 v, by simpa using h.sz⟩
theorem JM.put3 {B : Nat} {x y : D5} {a b c d e : Int} {w : World} (h : JM B x y a b c d e w) (v : Int) : JM B x y a b c v e (w.setCell ⟨B + 1 + 1 + 1, 3, none⟩ (.int .i64 v)) :=
  ⟨h.x.other (by omega), h.y.other (by omega), h.o.other (by omega), h.r.set3 v, by simpa using h.sz⟩
theorem JM.put4 {B : Nat} {x y : D5} {a b c d e : Int} {w : World} (h : JM B x y a b c d e w) (v : Int) : JM B x y a b c d v (w.setCell ⟨B + 1 + 1 + 1, 4, none⟩ (.int .i64 v)) :=
  ⟨h.x.other (by omega), h.y.other (by omega), h.o.other (by omega), h.r.set4 v, by simpa using h.sz⟩
theorem joinS_none0 (f : Int → Int → Int) (x y : D5) (h : ¬ In8 (f x.a y.a)) : joinS f x y = none := by
  unfold joinS; exact if_neg fun k => h k.1
theorem joinS_none1 (f : Int → Int → Int) (x y : D5) (h : ¬ In8 (f x.b y.b)) : joinS f x y = none := by
  unfold joinS; exact if_neg fun k => h k.2.1
theorem joinS_none2 (f : Int → Int → Int) (x y : D5) (h : ¬ In8 (f x.c y.c)) : joinS f x y = none := by
  unfold joinS; exact if_neg fun k => h k.2.2.1
theorem joinS_none3 (f : Int → Int → Int) (x y : D5) (h : ¬ In8 (f x.d y.d)) : joinS f x y = none := by
  unfold joinS; exact if_neg fun k => h k.2.2.2.1
theorem joinS_none4 (f : Int → Int → Int) (x y : D5) (h : ¬ In8 (f x.e y.e)) : joinS f x y = none := by
  unfold joinS; exact if_neg fun k => h k.2.2.2.2
theorem joinS_some (f : Int → Int → Int) (x y : D5) (h : In8 (f x.a y.a) ∧ In8 (f x.b y.b) ∧ In8 (f x.c y.c) ∧ In8 (f x.d y.d) ∧ In8 (f x.e y.e)) : joinS f x y = some ⟨f x.a y.a, f x.b y.b, f x.c y.c, f x.d y.d, f x.e y.e⟩ := if_pos h
theorem below5 {s q : Nat} {w w' : World} (h : Below s w w') (hq : s ≤ q) (v0 v1 v2 v3 v4 : Value) :
    Below s w (((((w'.setCell ⟨q, 0, none⟩ v0).setCell ⟨q, 1, none⟩ v1).setCell ⟨q, 2, none⟩ v2).setCell ⟨q, 3, none⟩ v3).setCell ⟨q, 4, none⟩ v4) :=
  ((((h.setCell hq _).setCell hq _).setCell hq _).setCell hq _).setCell hq _
end Go.Proofs.YtjmngnnmnbhfpaaDoor

/- Items: sameItem, EqualFunc over one item, SamePolicy. -/
import Derived.Test.YtdikeicnefgjcaaDoorTsB
import Derived.Test.YtdikeicnefgjcaaDoorTrW
namespace Go.Proofs.YtdikeicnefgjcaaDoor
open Go.RowKit

def itV (k : Int) (nm : ByteArray) (x : Tm) (vx : Value) (y : Tm) (vy : Value) (p : Int) : Value := .agg #[.int .i64 k, .string nm, .string ⟨#[]⟩, .int .i64 0, .int .i64 0, .int .i64 0, .int .i64 x.kind, .string x.text, .int .i64 x.n, .int .i64 x.m, .int .i64 x.pl, vx, .int .i64 y.kind, .string y.text, .int .i64 y.n, .int .i64 y.m, .int .i64 y.pl, vy, .int .i64 p]
def itL (k : Int) (nm : ByteArray) (x : Tm) (vx : Value) (y : Tm) (vy : Value) (p : Int) : List Value := [.int .i64 k, .string nm, .string ⟨#[]⟩, .int .i64 0, .int .i64 0, .int .i64 0, .int .i64 x.kind, .string x.text, .int .i64 x.n, .int .i64 x.m, .int .i64 x.pl, vx, .int .i64 y.kind, .string y.text, .int .i64 y.n, .int .i64 y.m, .int .i64 y.pl, vy, .int .i64 p]
theorem it_y {w : World} {g : Nat} {k : Int} {nm : ByteArray} {x y : Tm} {vx vy : Value} {p : Int} (h : Box w g (itL k nm x vx y vy p)) : w.cell? ⟨g, 12, none⟩ = some (.int .i64 y.kind) ∧ w.cell? ⟨g, 13, none⟩ = some (.string y.text) ∧ w.cell? ⟨g, 14, none⟩ = some (.int .i64 y.n) ∧ w.cell? ⟨g, 15, none⟩ = some (.int .i64 y.m) ∧ w.cell? ⟨g, 16, none⟩ = some (.int .i64 y.pl) ∧ w.cell? ⟨g, 17, none⟩ = some vy :=
  ⟨h.cell 12 _ rfl, h.cell 13 _ rfl, h.cell 14 _ rfl, h.cell 15 _ rfl, h.cell 16 _ rfl, h.cell 17 _ rfl⟩
theorem it_x {w : World} {g : Nat} {k : Int} {nm : ByteArray} {x y : Tm} {vx vy : Value} {p : Int} (h : Box w g (itL k nm x vx y vy p)) : w.cell? ⟨g, 6, none⟩ = some (.int .i64 x.kind) ∧ w.cell? ⟨g, 7, none⟩ = some (.string x.text) ∧ w.cell? ⟨g, 8, none⟩ = some (.int .i64 x.n) ∧ w.cell? ⟨g, 9, none⟩ = some (.int .i64 x.m) ∧ w.cell? ⟨g, 10, none⟩ = some (.int .i64 x.pl) ∧ w.cell? ⟨g, 11, none⟩ = some vx :=
  ⟨h.cell 6 _ rfl, h.cell 7 _ rfl, h.cell 8 _ rfl, h.cell 9 _ rfl, h.cell 10 _ rfl, h.cell 11 _ rfl⟩
set_option maxRecDepth 20000 in
set_option maxHeartbeats 2000000 in
theorem sameItem_c {z : Nat} (k : Int) (nm : ByteArray) (x : Tm) (vx : Value) (y : Tm) (vy : Value) (p : Int) (x' : Tm) (vx' : Value) (y' : Tm) (vy' : Value) (p' : Int) (w : World) (hx : Sits z w x vx) (hy : Sits z w y vy) (hx' : Sits z w x' vx') (hy' : Sits z w y' vy') :
    Calls Tryd.prog 48 #[itV k nm x vx y vy p, itV k nm x' vx' y' vy' p'] w fun e w' => e = .returned (.bool (sameB x x' && sameB y y')) ∧ Below w.heap.size w w' := by
  have A : ∀ o o', Below w.heap.size w ((w.alloc o).alloc o') := fun o o' => ((Below.refl _ _).alloc (Nat.le_refl _) _).alloc (by simp) _
  have HX := hid2 (fun o o' => same_all x x' vx vx' ((w.alloc o).alloc o') (hx.next (A o o')) (hx'.next (A o o')))
  have HY := hid2 (fun wx (hb : Below w.heap.size w wx) => same_all y y' vy vy' wx (hy.next hb) (hy'.next hb))
  have HA := hid2 A
  obtain ⟨ad1, cp1, rfl, -, -⟩ := hx.parts.shape
  obtain ⟨ad2, cp2, rfl, -, -⟩ := hy.parts.shape
  obtain ⟨ad3, cp3, rfl, -, -⟩ := hx'.parts.shape
  obtain ⟨ad4, cp4, rfl, -, -⟩ := hy'.parts.shape
  generalize sameB x x' = q at *
  generalize sameB y y' = q' at *
  clear hx hy hx' hy' A
  obtain ⟨X0, X1, XB⟩ := two_boxes w 32 32 (itL k nm x (.slice ad1 x.parts.length cp1) y (.slice ad2 y.parts.length cp2) p) (itL k nm x' (.slice ad3 x'.parts.length cp3) y' (.slice ad4 y'.parts.length cp4) p')
  have BX := hid2 X0
  have BY := hid2 X1
  clear X0 X1 XB
  unfold itV
  go_enter Tryd.func48, Tryd.ntmps48
  go_wp2_with fail
  refine Calls.mono (HX.out _ _) ?_
  rintro e w1 ⟨rfl, b1⟩
  have B1 := hid2 (below_on (HA.out _ _) b1 (by simp; omega))
  obtain ⟨a0, a1, a2, a3, a4, a5⟩ := it_y (BX.out.next b1)
  obtain ⟨c0, c1, c2, c3, c4, c5⟩ := it_y (BY.out.next b1)
  clear b1 BX BY HX HA
  cases q
  · go_wp2_with fail
    go_ret
    exact ⟨rfl, B1.out⟩
  · go_wp2_with fail
    refine Calls.mono (HY.out _ B1.out) ?_
    rintro e w2 ⟨rfl, b2⟩
    have B2 := hid2 (below_on B1.out b2 B1.out.size)
    clear b2 a0 a1 a2 a3 a4 a5 c0 c1 c2 c3 c4 c5
    go_wp2_with fail
    go_ret
    exact ⟨by simp, B2.out⟩
end Go.Proofs.YtdikeicnefgjcaaDoor

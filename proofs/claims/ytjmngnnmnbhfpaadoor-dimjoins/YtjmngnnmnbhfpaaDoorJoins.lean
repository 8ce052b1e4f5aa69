/- The statement DimJoins: the walk of her Go text. -/
import Derived.Test.YtjmngnnmnbhfpaaDoorRJoinS
namespace Go.Proofs.YtjmngnnmnbhfpaaDoor
open Go.RowKit

theorem joinV_open (o : Option D5) : ∃ r ok, joinV o = .tuple #[dimV r, .bool ok] ∧ (o.getD dim0 = r ∧ o.isSome = ok) := ⟨_, _, rfl, rfl, rfl⟩

set_option maxHeartbeats 8000000 in
theorem dimJoins_walk (x y : D5) (fx : x.Fits) (fy : y.Fits) (w : World) (hN : NamesAt w) :
    Calls Tryd.prog 5 #[dimV x, dimV y] w fun e w' => e = .returned (.bool true) ∧ Below w.heap.size w w' := by
  obtain ⟨xb, yb, l0⟩ := two_boxes w 24 24 (dCells x) (dCells y)
  have hN1 := hN.later l0
  have hm := fun wx => Mul_any x y fx fy wx
  have hd := fun wx => Div_any x y fx fy wx
  have rm := fun wx => rJoin_add x y fx fy wx
  have rd := fun wx => rJoin_sub x y fx fy wx
  obtain ⟨c, ok, e1, _⟩ := joinV_open (joinS (· + ·) x y)
  obtain ⟨d, fine, e2, _⟩ := joinV_open (joinS (· - ·) x y)
  rw [e1] at hm rm
  rw [e2] at hd rd
  simp only [dimV] at hm hd rm rd
  have q1 := fun wx => eqDim c c wx
  have q2 := fun wx => eqDim d d wx
  rw [eqD_self] at q1 q2
  simp only [dimV] at q1 q2
  clear e1 e2
  have o1 : (ok == ok) = true := by simp
  have o2 : (fine == fine) = true := by simp
  go_enter Tryd.func5, Tryd.ntmps5
  go_wp2_with fail
  refine (awake_any _ hN1).mono ?_
  rintro e w1 ⟨rfl, hb1⟩
  have xb := xb.next hb1
  have yb := yb.next hb1
  have bl := l0.trans (hb1.mono l0.size)
  clear hb1 l0 hN1
  obtain ⟨x0, x1, x2, x3, x4⟩ := xb.cells5
  obtain ⟨y0, y1, y2, y3, y4⟩ := yb.cells5
  go_wp2_with fail
  refine (hm _).mono ?_
  rintro e w2 ⟨rfl, hb2⟩
  clear x0 x1 x2 x3 x4 y0 y1 y2 y3 y4
  obtain ⟨cb, l2⟩ := one_box w2 24 (dCells c)
  have xb := (xb.next hb2).next l2
  have yb := (yb.next hb2).next l2
  have bl := (bl.trans (hb2.mono bl.size)).trans (l2.mono (Nat.le_trans bl.size hb2.size))
  clear hb2 l2
  obtain ⟨x0, x1, x2, x3, x4⟩ := xb.cells5
  obtain ⟨y0, y1, y2, y3, y4⟩ := yb.cells5
  go_wp2_with fail
  refine (hd _).mono ?_
  rintro e w3 ⟨rfl, hb3⟩
  clear x0 x1 x2 x3 x4 y0 y1 y2 y3 y4
  obtain ⟨db, l3⟩ := one_box w3 24 (dCells d)
  have xb := (xb.next hb3).next l3
  have yb := (yb.next hb3).next l3
  have cb := (cb.next hb3).next l3
  have bl := (bl.trans (hb3.mono bl.size)).trans (l3.mono (Nat.le_trans bl.size hb3.size))
  clear hb3 l3
  obtain ⟨x0, x1, x2, x3, x4⟩ := xb.cells5
  obtain ⟨y0, y1, y2, y3, y4⟩ := yb.cells5
  go_wp2_with fail
  refine (rm _).mono ?_
  rintro e w4 ⟨rfl, hb4⟩
  clear x0 x1 x2 x3 x4 y0 y1 y2 y3 y4
  obtain ⟨mb, l4⟩ := one_box w4 24 (dCells c)
  have xb := (xb.next hb4).next l4
  have yb := (yb.next hb4).next l4
  have cb := (cb.next hb4).next l4
  have db := (db.next hb4).next l4
  have bl := (bl.trans (hb4.mono bl.size)).trans (l4.mono (Nat.le_trans bl.size hb4.size))
  clear hb4 l4
  obtain ⟨x0, x1, x2, x3, x4⟩ := xb.cells5
  obtain ⟨y0, y1, y2, y3, y4⟩ := yb.cells5
  go_wp2_with fail
  refine (rd _).mono ?_
  rintro e w5 ⟨rfl, hb5⟩
  clear x0 x1 x2 x3 x4 y0 y1 y2 y3 y4
  obtain ⟨nb, l5⟩ := one_box w5 24 (dCells d)
  have cb := (cb.next hb5).next l5
  have db := (db.next hb5).next l5
  have mb := (mb.next hb5).next l5
  have bl := (bl.trans (hb5.mono bl.size)).trans (l5.mono (Nat.le_trans bl.size hb5.size))
  clear hb5 l5
  obtain ⟨c0, c1, c2, c3, c4⟩ := cb.cells5
  obtain ⟨d0, d1, d2, d3, d4⟩ := db.cells5
  obtain ⟨m0, m1, m2, m3, m4⟩ := mb.cells5
  obtain ⟨n0, n1, n2, n3, n4⟩ := nb.cells5
  go_wp2_with fail
  go_ret
  exact ⟨rfl, bl⟩
end Go.Proofs.YtjmngnnmnbhfpaaDoor

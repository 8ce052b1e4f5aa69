/- Package codec: the law CodecDecodes walked. -/
import Derived.Test.YthfnjlfhaibbeaaDoorDcT
import Derived.Test.YthfnjlfhaibbeaaDoorDdC
namespace Go.Proofs.YthfnjlfhaibbeaaDoor
open Go.RowKit

/-- What is decoded of bytes. -/
def dG (l : List UInt8) : PgP × Int := if 1048576 < l.length then (pg0, 2) else match decF l with
  | none => (pg0, 40)
  | some g => (g, 0)
theorem pg0_rd (w : World) : PgRd w pg0 ⟨.slice none 0 0, .slice none 0 0, .slice none 0 0, .slice none 0 0⟩ := ⟨nil_rows _ _ _, nil_rows _ _ _, nil_rows _ _ _, nil_rows _ _ _⟩
theorem dec_all {l : List UInt8} {w : World} {e : Ending} {w' : World} (h : DecP l w e w') : Below w.heap.size w w' ∧ ∃ u, e = .returned (.tuple #[pgV (dG l).1 u, .int .i64 (dG l).2]) ∧ PgRd w' (dG l).1 u := by
  obtain ⟨hb, h⟩ := h
  refine ⟨hb, ?_⟩
  unfold dG
  by_cases hl : 1048576 < l.length
  · rw [if_pos hl] at h ⊢
    exact ⟨_, h, pg0_rd w'⟩
  · rw [if_neg hl] at h ⊢
    cases hd : decF l with
    | none =>
      rw [hd] at h
      exact ⟨_, h, pg0_rd w'⟩
    | some g =>
      rw [hd] at h
      obtain ⟨u, h1, h2⟩ := h
      exact ⟨u, h1, h2.rd⟩
set_option maxHeartbeats 2000000 in
set_option maxRecDepth 20000 in
theorem codecDecodes_c (l : List UInt8) (v : Value) (w : World) (hv : ByAt w v l) (hg : ErrG w) :
    Calls Tryd.prog 3 #[v] w fun e w' => e = .returned (.bool true) ∧ Below w.heap.size w w' := by
  have HA := chid (awake22_c _ hg)
  have HD := chid (fun W (hb : Below w.heap.size w W) => (cDecode_c l v W (RowsK.next hv hb) (err_next hg hb)).mono fun e w' h => dec_all h)
  have HR := chid (fun W (hb : Below w.heap.size w W) => (rDecode_c l v W (RowsK.next hv hb)).mono fun e w' h => dec_all h)
  obtain ⟨va, vc, rfl, hc1, hc2⟩ := RowsK.shape hv
  generalize dG l = q at HD HR
  obtain ⟨g, n⟩ := q
  dsimp only at HD HR
  clear hv hg
  go_enter Tryd.func3, Tryd.ntmps3
  go_wp2_with fail
  refine Calls.mono HA.out ?_
  rintro e w1 ⟨rfl, b1⟩
  have B1 := chid b1
  clear b1
  go_wp2_with fail
  refine Calls.mono (HD.out w1 B1.out) ?_
  rintro e w2 ⟨b2, u, rfl, h2⟩
  obtain ⟨a1, c1, b1, d1, e1, f1, h1, k1, rfl⟩ := h2.shape
  obtain ⟨g1, hg1⟩ : ∃ x, Hid (x = w2.heap.size) := ⟨_, chid rfl⟩
  obtain ⟨w3, hw3⟩ : ∃ x, Hid (x = w2.alloc (.cells #[.int .i64 g.met, .int .i64 g.ru.mn, .int .i64 g.ru.mx, .int .i64 g.ru.st, .int .i64 g.ru.up, .int .i64 g.ru.dn, .slice a1 g.K.length c1, .slice b1 g.wins.length d1, .slice e1 g.crons.length f1, .int .i64 g.loc, .int .i64 g.h, .slice h1 g.C.length k1] 31)) := ⟨_, chid rfl⟩
  have al := bel_alloc w2 (.cells #[.int .i64 g.met, .int .i64 g.ru.mn, .int .i64 g.ru.mx, .int .i64 g.ru.st, .int .i64 g.ru.up, .int .i64 g.ru.dn, .slice a1 g.K.length c1, .slice b1 g.wins.length d1, .slice e1 g.crons.length f1, .int .i64 g.loc, .int .i64 g.h, .slice h1 g.C.length k1] 31)
  have Y1 := Box.new w2 (pgL g ⟨.slice a1 g.K.length c1, .slice b1 g.wins.length d1, .slice e1 g.crons.length f1, .slice h1 g.C.length k1⟩) 31
  have E3 : w3 = w2.alloc (.cells (pgL g ⟨.slice a1 g.K.length c1, .slice b1 g.wins.length d1, .slice e1 g.crons.length f1, .slice h1 g.C.length k1⟩).toArray 31) := hw3.out
  rw [← E3, ← hg1.out] at Y1
  rw [← hw3.out] at al
  have B3 := chid (bel3 (bel3 B1.out b2) al)
  have H3 := chid (h2.next al)
  have HY3 := chid Y1
  clear E3 al b2 h2 Y1
  go_wp2_with fail
  rw [← hw3.out, ← hg1.out]
  clear hw3
  refine Calls.mono (HR.out w3 B3.out) ?_
  rintro e w4 ⟨b4, u, rfl, h4⟩
  obtain ⟨a2, c2, b2, d2, e2, f2, h2, k2, rfl⟩ := h4.shape
  obtain ⟨g2, hg2⟩ : ∃ x, Hid (x = w4.heap.size) := ⟨_, chid rfl⟩
  obtain ⟨w5, hw5⟩ : ∃ x, Hid (x = w4.alloc (.cells #[.int .i64 g.met, .int .i64 g.ru.mn, .int .i64 g.ru.mx, .int .i64 g.ru.st, .int .i64 g.ru.up, .int .i64 g.ru.dn, .slice a2 g.K.length c2, .slice b2 g.wins.length d2, .slice e2 g.crons.length f2, .int .i64 g.loc, .int .i64 g.h, .slice h2 g.C.length k2] 31)) := ⟨_, chid rfl⟩
  have al := bel_alloc w4 (.cells #[.int .i64 g.met, .int .i64 g.ru.mn, .int .i64 g.ru.mx, .int .i64 g.ru.st, .int .i64 g.ru.up, .int .i64 g.ru.dn, .slice a2 g.K.length c2, .slice b2 g.wins.length d2, .slice e2 g.crons.length f2, .int .i64 g.loc, .int .i64 g.h, .slice h2 g.C.length k2] 31)
  have Y2 := Box.new w4 (pgL g ⟨.slice a2 g.K.length c2, .slice b2 g.wins.length d2, .slice e2 g.crons.length f2, .slice h2 g.C.length k2⟩) 31
  have E5 : w5 = w4.alloc (.cells (pgL g ⟨.slice a2 g.K.length c2, .slice b2 g.wins.length d2, .slice e2 g.crons.length f2, .slice h2 g.C.length k2⟩).toArray 31) := hw5.out
  rw [← E5, ← hg2.out] at Y2
  rw [← hw5.out] at al
  have B5 := chid (bel3 (bel3 B3.out b4) al)
  have Y1 := HY3.out.next b4
  have HS := chid (same_c g g _ _ w5 ((H3.out.next b4).next al) (h4.next al))
  clear E5 b4 h4 H3

  have y0 := Y1.cell 0 _ rfl
  have y1 := Y1.cell 1 _ rfl
  have y2 := Y1.cell 2 _ rfl
  have y3 := Y1.cell 3 _ rfl
  have y4 := Y1.cell 4 _ rfl
  have y5 := Y1.cell 5 _ rfl
  have y6 := Y1.cell 6 _ rfl
  have y7 := Y1.cell 7 _ rfl
  have y8 := Y1.cell 8 _ rfl
  have y9 := Y1.cell 9 _ rfl
  have y10 := Y1.cell 10 _ rfl
  have y11 := Y1.cell 11 _ rfl
  have yl := Y1.lt
  clear al Y1 Y2
  have hnn : (n == n) = true := by simp
  go_wp2_with fail
  rw [← hw5.out, ← hg2.out]
  refine Calls.mono HS.out ?_
  intro e w6 h6
  obtain ⟨b6, rfl⟩ := same_t h6 rfl
  clear h6
  go_wp2_with fail
  go_ret
  exact ⟨rfl, bel3 B5.out b6⟩
end Go.Proofs.YthfnjlfhaibbeaaDoor

/- Package codec: Encode whole; bytes that are the same. -/
import Derived.Test.YthfnjlfhaibbeaaDoorDcE
namespace Go.Proofs.YthfnjlfhaibbeaaDoor
open Go.RowKit

/-- What Encode answers. -/
def EncP (g : PgP) (w : World) (e : Ending) (w' : World) : Prop := Below w.heap.size w w' ∧
  ((toldB g = false ∧ e = .returned (.tuple #[.slice none 0 0, .int .i64 1])) ∨ (toldB g = true ∧ ∃ v, e = .returned (.tuple #[v, .int .i64 0]) ∧ Bys w' w.heap.size v (encF g)))
set_option maxHeartbeats 1000000 in
set_option maxRecDepth 20000 in
theorem cEncode_c (g : PgP) (u : PgV) (w : World) (h : PgRd w g u) :
    Calls Tryd.prog 18 #[pgV g u] w (EncP g w) := by
  obtain ⟨a1, c1, e1, -, -⟩ := RowsK.shape h.k
  obtain ⟨a2, c2, e2, -, -⟩ := RowsK.shape h.wi
  obtain ⟨a3, c3, e3, -, -⟩ := RowsK.shape h.cr
  obtain ⟨a4, c4, e4, -, -⟩ := RowsK.shape h.c
  obtain ⟨vk, vw, vr, vc⟩ := u
  simp only at e1 e2 e3 e4
  subst e1 e2 e3 e4
  obtain ⟨Y0, YB⟩ := one_box w 31 (pgL g ⟨.slice a1 g.K.length c1, .slice a2 g.wins.length c2, .slice a3 g.crons.length c3, .slice a4 g.C.length c4⟩)
  have HT := told_c g _ _ (h.next YB)
  have HR := chid h
  have HY := chid Y0
  have HB := chid YB
  cases hq : toldB g with
  | false =>
    rw [hq] at HT
    have HT := chid HT
    have HE : Hid (∀ w', Below w.heap.size w w' → EncP g w (.returned (.tuple #[.slice none 0 0, .int .i64 1])) w') := chid (fun w' hb => ⟨hb, .inl ⟨hq, rfl⟩⟩)
    clear h hq Y0 YB HR HY
    generalize EncP g w = Post at *
    go_enter Tryd.func18, Tryd.ntmps18
    go_wp2_with fail
    refine Calls.mono HT.out ?_
    rintro e w1 ⟨rfl, b1⟩
    go_wp2_with fail
    exact HE.out _ (cbelow_on HB.out b1 HB.out.size)
  | true =>
    rw [hq] at HT
    have HT := chid HT
    have HE : Hid (∀ w' v, Below w.heap.size w w' → Bys w' w.heap.size v (encF g) → EncP g w (.returned (.tuple #[v, .int .i64 0])) w') := chid (fun w' v hb hv => ⟨hb, .inr ⟨hq, v, rfl, hv⟩⟩)
    have HTo := chid (told_iff.1 hq)
    clear h hq Y0 YB
    generalize EncP g w = Post at *
    go_enter Tryd.func18, Tryd.ntmps18
    go_wp2_with fail
    refine Calls.mono HT.out ?_
    rintro e w1 ⟨rfl, b1⟩
    have Y1 := (HY.out.next b1).next (bel_alloc w1 (.cells #[.slice none 0 0] 79))
    have z0 := Y1.cell 0 _ rfl
    have z1 := Y1.cell 1 _ rfl
    have z2 := Y1.cell 2 _ rfl
    have z3 := Y1.cell 3 _ rfl
    have z4 := Y1.cell 4 _ rfl
    have z5 := Y1.cell 5 _ rfl
    have z6 := Y1.cell 6 _ rfl
    have z7 := Y1.cell 7 _ rfl
    have z8 := Y1.cell 8 _ rfl
    have z9 := Y1.cell 9 _ rfl
    have z10 := Y1.cell 10 _ rfl
    have z11 := Y1.cell 11 _ rfl
    have zl := Y1.lt
    have HB1 := chid (cbelow_on HB.out b1 HB.out.size)
    have HB2 := chid (HB1.out.alloc HB1.out.size (.cells #[.slice none 0 0] 79))
    have HW := chid (wprog_c w1.heap.size g _ w _ ⟨Box.new w1 [.slice none 0 0] 79, World.ownsRow_nil _ _ _ _⟩ HR.out HB2.out HB1.out.size HTo.out)
    clear b1 Y1
    go_wp2_with fail
    refine Calls.mono HW.out ?_
    rintro e w2 ⟨rfl, v, W2, t2, f2⟩
    obtain ⟨av, cv, hv⟩ := own_shape W2.row
    subst hv
    have x0 := W2.box.cell 0 _ rfl
    have xl := W2.box.lt
    have HF := chid (HE.out w2 _ (HB2.out.trans (t2.below (fun i hi => by
      rcases foot_mem.1 hi with rfl | hi
      · exact HB1.out.size
      · cases hi) HB2.out.size)) (own_low _ W2.row (by have := HB1.out.size; omega)))
    clear W2 t2 f2 z0 z1 z2 z3 z4 z5 z6 z7 z8 z9 z10 z11 zl
    go_wp2_with fail
    exact HF.out
end Go.Proofs.YthfnjlfhaibbeaaDoor

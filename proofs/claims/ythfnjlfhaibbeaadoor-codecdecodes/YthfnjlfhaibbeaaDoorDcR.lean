/- Package codec: what the laws ask first. -/
import Derived.Test.YthfnjlfhaibbeaaDoorDcO
import Derived.Test.YthfnjlfhaibbeaaDoorDcQ
namespace Go.Proofs.YthfnjlfhaibbeaaDoor
open Go.RowKit

/-- The least program that can be told. -/
def leastP : PgP := ⟨0, ⟨0, 1, 1, 0, 0⟩, [], [], [], 0, 0, [(29, 0)]⟩
theorem least_told : toldB leastP = true := by decide
theorem c64_small {x : Int} (h0 : 0 ≤ x) (h1 : x ≤ 29) : C64 x := ⟨by omega, by omega⟩
theorem least_ok : PgOk leastP where
  met := c64_small (by decide) (by decide)
  ru := ⟨c64_small (by decide) (by decide), c64_small (by decide) (by decide), c64_small (by decide) (by decide), c64_small (by decide) (by decide), c64_small (by decide) (by decide)⟩
  K := fun x hx => by cases hx
  wins := fun x hx => by cases hx
  crons := fun x hx => by cases hx
  loc := c64_small (by decide) (by decide)
  h := c64_small (by decide) (by decide)
  C := fun x hx => by
    have e : x = (29, 0) := List.mem_singleton.1 hx
    rw [e]
    exact ⟨c64_small (by decide) (by decide), c64_small (by decide) (by decide)⟩
theorem least_len : (encF leastP).length = 81 := by rw [encF_len]; rfl
theorem nil_rows (w : World) (k : Nat) (cs : Nat → List Value) : RowsK w (.slice none 0 0) 0 k cs := ⟨none, 0, rfl, by omega, by omega, .inl rfl⟩
set_option maxHeartbeats 1000000 in
set_option maxRecDepth 20000 in
theorem least_c (w : World) : Calls Tryd.prog 19 #[] w fun e w' => ∃ u, e = .returned (pgV leastP u) ∧ PgRd w' leastP u ∧ Below w.heap.size w w' := by
  have HE : Hid (∀ w1, Below w.heap.size w w1 → w1.heap.size = w.heap.size + 1 → ∃ u, Ending.returned (.agg #[.int .i64 0, .int .i64 0, .int .i64 1, .int .i64 1, .int .i64 0, .int .i64 0, .slice none 0 0, .slice none 0 0, .slice none 0 0, .int .i64 0, .int .i64 0, .slice (some ⟨w.heap.size + 1, 0, none⟩) 1 1]) = .returned (pgV leastP u) ∧ PgRd (w1.alloc (.cells #[.int .i64 29, .int .i64 0] 51)) leastP u ∧ Below w.heap.size w (w1.alloc (.cells #[.int .i64 29, .int .i64 0] 51))) := chid (fun w1 hb hs => by
    refine ⟨⟨.slice none 0 0, .slice none 0 0, .slice none 0 0, .slice (some ⟨w.heap.size + 1, 0, none⟩) 1 1⟩, rfl, ⟨nil_rows _ _ _, nil_rows _ _ _, nil_rows _ _ _, ?_⟩, hb.alloc hb.size _⟩
    have B := Box.new w1 [.int .i64 29, .int .i64 0] 51
    rw [hs] at B
    refine ⟨some ⟨w.heap.size + 1, 0, none⟩, 1, rfl, Nat.le_refl _, by omega, .inr ⟨w.heap.size + 1, 0, rfl, B.lt, fun i hi j x hx => ?_⟩⟩
    have hi0 : i = 0 := by have : i < 1 := hi; omega
    subst hi0
    simp only [Nat.zero_mul, Nat.zero_add]
    exact B.cell j x hx)
  go_enter Tryd.func19, Tryd.ntmps19
  go_wp2_with fail
  refine bodyPost_ret (v := .agg #[.int .i64 0, .int .i64 0, .int .i64 1, .int .i64 1, .int .i64 0, .int .i64 0, .slice none 0 0, .slice none 0 0, .slice none 0 0, .int .i64 0, .int .i64 0, .slice (some ⟨w.heap.size + 1, 0, none⟩) 1 1]) (by simp [results, Tryd.results19, go_sem, *]) rfl (HE.out _ ((Below.refl _ _).alloc (Nat.le_refl _) _) (by simp))
theorem dec_of {g : PgP} {w : World} {e : Ending} {w' : World} (ht : toldB g = true) (ho : PgOk g) (h : DecP (encF g) w e w') : Below w.heap.size w w' ∧ ∃ u, e = .returned (.tuple #[pgV g u, .int .i64 0]) ∧ PgNew w.heap.size g u w' := by
  obtain ⟨hb, h⟩ := h
  rw [if_neg (by have := told_len (told_iff.1 ht); omega), dec_enc (told_iff.1 ht) ho] at h
  exact ⟨hb, h⟩
theorem enc_of {g : PgP} {w : World} {e : Ending} {w' : World} (ht : toldB g = true) (h : EncP g w e w') : Below w.heap.size w w' ∧ ∃ v, e = .returned (.tuple #[v, .int .i64 0]) ∧ Bys w' w.heap.size v (encF g) := by
  obtain ⟨hb, h⟩ := h
  rcases h with ⟨h, -⟩ | ⟨-, h⟩
  · rw [ht] at h; cases h
  · exact ⟨hb, h⟩
theorem enc_not {g : PgP} {w : World} {e : Ending} {w' : World} (ht : toldB g = false) (h : EncP g w e w') : Below w.heap.size w w' ∧ e = .returned (.tuple #[.slice none 0 0, .int .i64 1]) := by
  obtain ⟨hb, h⟩ := h
  rcases h with ⟨-, h⟩ | ⟨h, -⟩
  · exact ⟨hb, h⟩
  · rw [ht] at h; cases h
theorem same_t {g q : PgP} {w : World} {e : Ending} {w' : World} (h : SaP g q w e w') (he : g = q) : Below w.heap.size w w' ∧ e = .returned (.bool true) := by
  obtain ⟨hb, R, rfl, hr⟩ := h
  rw [hr.2 he]
  exact ⟨hb, rfl⟩
theorem PgNew.shape {B : Nat} {g : PgP} {u : PgV} {w : World} (h : PgNew B g u w) : ∃ a1 c1 a2 c2 a3 c3 a4 c4, u = ⟨.slice a1 g.K.length c1, .slice a2 g.wins.length c2, .slice a3 g.crons.length c3, .slice a4 g.C.length c4⟩ := by
  obtain ⟨a1, c1, e1⟩ := own_shape h.k
  obtain ⟨a2, c2, e2⟩ := own_shape h.wi
  obtain ⟨a3, c3, e3⟩ := own_shape h.cr
  obtain ⟨a4, c4, e4⟩ := own_shape h.c
  obtain ⟨uk, uw, ur, uc⟩ := u
  simp only at e1 e2 e3 e4
  exact ⟨a1, c1, a2, c2, a3, c3, a4, c4, by rw [e1, e2, e3, e4]⟩
theorem PgRd.shape {g : PgP} {u : PgV} {w : World} (h : PgRd w g u) : ∃ a1 c1 a2 c2 a3 c3 a4 c4, u = ⟨.slice a1 g.K.length c1, .slice a2 g.wins.length c2, .slice a3 g.crons.length c3, .slice a4 g.C.length c4⟩ := by
  obtain ⟨a1, c1, e1, -⟩ := RowsK.shape h.k
  obtain ⟨a2, c2, e2, -⟩ := RowsK.shape h.wi
  obtain ⟨a3, c3, e3, -⟩ := RowsK.shape h.cr
  obtain ⟨a4, c4, e4, -⟩ := RowsK.shape h.c
  obtain ⟨uk, uw, ur, uc⟩ := u
  simp only at e1 e2 e3 e4
  exact ⟨a1, c1, a2, c2, a3, c3, a4, c4, by rw [e1, e2, e3, e4]⟩
theorem err_next {w w' : World} (h : ErrG w) (hb : Below w.heap.size w w') : ErrG w' := h.turn (S := []) (Turn.of_below hb) (by simp)
set_option maxHeartbeats 4000000 in
set_option maxRecDepth 20000 in
theorem awake22_c (w : World) (hg : ErrG w) : Calls Tryd.prog 8 #[] w fun e w' => e = .returned (.bool true) ∧ Below w.heap.size w w' := by
  have HG := chid hg
  have hLs := least_c
  have hT := least_told
  have hO := least_ok
  have hLn := least_len
  generalize leastP = P at hLs hT hO hLn
  have HLs := chid hLs
  have HT := chid hT
  have HO := chid hO
  have HLn := chid hLn
  clear hLs hT hO hLn
  have HL := chid (HLs.out w)
  clear hg
  go_enter Tryd.func8, Tryd.ntmps8
  go_wp2_with fail
  refine Calls.mono HL.out ?_
  rintro e w1 ⟨u, rfl, hr, b1⟩
  have HE := chid (cEncode_c P u w1 hr)
  have HB1 := chid b1
  clear hr b1
  go_wp2_with fail
  refine Calls.mono HE.out ?_
  intro e w2 h2
  obtain ⟨b2, v, rfl, hv⟩ := enc_of HT.out h2
  have HG2 := err_next HG.out (cbelow_on HB1.out b2 HB1.out.size)
  have HD := chid (cDecode_c _ v w2 hv.at HG2)
  have HB2 := chid (cbelow_on HB1.out b2 HB1.out.size)
  obtain ⟨va, vc, hvv⟩ := own_shape hv
  rw [HLn.out] at hvv
  subst hvv
  clear hv b2 h2 HG2
  go_wp2_with fail
  refine Calls.mono HD.out ?_
  intro e w3 h3
  obtain ⟨b3, x, rfl, hx⟩ := dec_of HT.out HO.out h3
  have HX := chid hx.rd
  obtain ⟨a1, c1, a2, c2, a3, c3, a4, c4, rfl⟩ := hx.shape
  obtain ⟨bp, hbp⟩ : ∃ bp, Hid (bp = w3.heap.size) := ⟨_, chid rfl⟩
  have HB3 := chid (cbelow_on HB2.out b3 HB2.out.size)
  clear h3 b3 hx
  go_wp2_with fail
  have YP := Box.new w3 [.int .i64 P.met, .int .i64 P.ru.mn, .int .i64 P.ru.mx, .int .i64 P.ru.st, .int .i64 P.ru.up, .int .i64 P.ru.dn, .slice a1 P.K.length c1, .slice a2 P.wins.length c2, .slice a3 P.crons.length c3, .int .i64 P.loc, .int .i64 P.h, .slice a4 P.C.length c4] 31
  rw [← hbp.out] at YP
  have al := bel_alloc w3 (.cells #[.int .i64 P.met, .int .i64 P.ru.mn, .int .i64 P.ru.mx, .int .i64 P.ru.st, .int .i64 P.ru.up, .int .i64 P.ru.dn, .slice a1 P.K.length c1, .slice a2 P.wins.length c2, .slice a3 P.crons.length c3, .int .i64 P.loc, .int .i64 P.h, .slice a4 P.C.length c4] 31)
  have HXa := chid (HX.out.next al)
  have HBa := chid (cbelow_on HB3.out al HB3.out.size)
  rw [← hbp.out]
  have HSm : Hid (∀ y W, PgRd W P (⟨.slice a1 P.K.length c1, .slice a2 P.wins.length c2, .slice a3 P.crons.length c3, .slice a4 P.C.length c4⟩ : PgV) → (∃ u2, y = pgV P u2 ∧ PgRd W P u2) → Calls Tryd.prog 11 #[.agg #[.int .i64 P.met, .int .i64 P.ru.mn, .int .i64 P.ru.mx, .int .i64 P.ru.st, .int .i64 P.ru.up, .int .i64 P.ru.dn, .slice a1 P.K.length c1, .slice a2 P.wins.length c2, .slice a3 P.crons.length c3, .int .i64 P.loc, .int .i64 P.h, .slice a4 P.C.length c4], y] W fun e w' => e = .returned (.bool true) ∧ Below W.heap.size W w') := chid (fun y W h1 h2 => by
    obtain ⟨u2, rfl, h2⟩ := h2
    exact (same_c P P _ u2 W h1 h2).mono fun e w' h => ⟨(same_t h rfl).2, (same_t h rfl).1⟩)
  have HLy : Hid (∀ W, Calls Tryd.prog 19 #[] W fun e w' => ∃ y, e = .returned y ∧ Hid (∃ u2, y = pgV P u2 ∧ PgRd w' P u2) ∧ Below W.heap.size W w') := chid (fun W => (HLs.out W).mono fun e w' h => by
    obtain ⟨u2, rfl, h1, h2⟩ := h
    exact ⟨_, rfl, ⟨u2, rfl, h1⟩, h2⟩)
  generalize hwa : w3.alloc _ = wa at *
  have y0 := YP.cell 0 _ rfl
  have y1 := YP.cell 1 _ rfl
  have y2 := YP.cell 2 _ rfl
  have y3 := YP.cell 3 _ rfl
  have y4 := YP.cell 4 _ rfl
  have y5 := YP.cell 5 _ rfl
  have y6 := YP.cell 6 _ rfl
  have y7 := YP.cell 7 _ rfl
  have y8 := YP.cell 8 _ rfl
  have y9 := YP.cell 9 _ rfl
  have y10 := YP.cell 10 _ rfl
  have y11 := YP.cell 11 _ rfl
  have yl := YP.lt
  clear hwa YP al HB1 HB2 HB3 HX HG HL HT HO HLn HLs
  generalize (⟨.slice a1 P.K.length c1, .slice a2 P.wins.length c2, .slice a3 P.crons.length c3, .slice a4 P.C.length c4⟩ : PgV) = uX at *
  generalize (.int .i64 P.met : Value) = x0 at *
  generalize (.int .i64 P.ru.mn : Value) = x1 at *
  generalize (.int .i64 P.ru.mx : Value) = x2 at *
  generalize (.int .i64 P.ru.st : Value) = x3 at *
  generalize (.int .i64 P.ru.up : Value) = x4 at *
  generalize (.int .i64 P.ru.dn : Value) = x5 at *
  generalize (.slice a1 P.K.length c1 : Value) = x6 at *
  generalize (.slice a2 P.wins.length c2 : Value) = x7 at *
  generalize (.slice a3 P.crons.length c3 : Value) = x8 at *
  generalize (.int .i64 P.loc : Value) = x9 at *
  generalize (.int .i64 P.h : Value) = x10 at *
  generalize (.slice a4 P.C.length c4 : Value) = x11 at *
  go_region_held3 (fun w' => w'.cell? ⟨bp, 0, none⟩ = some x0 ∧ w'.cell? ⟨bp, 1, none⟩ = some x1 ∧ w'.cell? ⟨bp, 2, none⟩ = some x2 ∧ w'.cell? ⟨bp, 3, none⟩ = some x3 ∧ w'.cell? ⟨bp, 4, none⟩ = some x4 ∧ w'.cell? ⟨bp, 5, none⟩ = some x5 ∧ w'.cell? ⟨bp, 6, none⟩ = some x6 ∧ w'.cell? ⟨bp, 7, none⟩ = some x7 ∧ w'.cell? ⟨bp, 8, none⟩ = some x8 ∧ w'.cell? ⟨bp, 9, none⟩ = some x9 ∧ w'.cell? ⟨bp, 10, none⟩ = some x10 ∧ w'.cell? ⟨bp, 11, none⟩ = some x11) (simp [go_sem, *]) (first | (go_at_call 19; refine Calls.mono (HLy.out _) ?_; rintro e w4 ⟨y, rfl, hr2, b4⟩; have BW : Below wa.heap.size wa w4 := ⟨b4.os, b4.tape, b4.output, b4.size, b4.block⟩; replace y0 := keepc BW y0; replace y1 := keepc BW y1; replace y2 := keepc BW y2; replace y3 := keepc BW y3; replace y4 := keepc BW y4; replace y5 := keepc BW y5; replace y6 := keepc BW y6; replace y7 := keepc BW y7; replace y8 := keepc BW y8; replace y9 := keepc BW y9; replace y10 := keepc BW y10; replace y11 := keepc BW y11; have HX4 := chid (HXa.out.next BW); have HB4 := chid (cbelow_on HBa.out BW HBa.out.size); have yl4 : bp < w4.heap.size := Nat.lt_of_lt_of_le yl BW.size; clear b4 BW) | (go_at_call 11; refine Calls.mono (HSm.out y w4 HX4.out hr2.out) ?_; rintro e w5 ⟨rfl, b5⟩; replace y0 := keepc b5 y0; replace y1 := keepc b5 y1; replace y2 := keepc b5 y2; replace y3 := keepc b5 y3; replace y4 := keepc b5 y4; replace y5 := keepc b5 y5; replace y6 := keepc b5 y6; replace y7 := keepc b5 y7; replace y8 := keepc b5 y8; replace y9 := keepc b5 y9; replace y10 := keepc b5 y10; replace y11 := keepc b5 y11; have HB5 := chid (cbelow_on HB4.out b5 HB4.out.size); clear b5))
  go_wp2_with fail
  go_ret
  exact ⟨rfl, HB5.out⟩
end Go.Proofs.YthfnjlfhaibbeaaDoor

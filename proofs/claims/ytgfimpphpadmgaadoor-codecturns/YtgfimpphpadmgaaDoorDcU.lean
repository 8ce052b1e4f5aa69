/- Package codec: the law CodecTurns walked. -/
import Derived.Test.YtgfimpphpadmgaaDoorDcT
namespace Go.Proofs.YtgfimpphpadmgaaDoor
open Go.RowKit

set_option maxHeartbeats 4000000 in
set_option maxRecDepth 20000 in
theorem codecTurns_c (g : PgP) (u : PgV) (q : PgP) (u' : PgV) (w : World) (h : PgRd w g u) (ho : PgOk g) (h' : PgRd w q u') (ho' : PgOk q) (hg : ErrG w) :
    Calls Tryd.prog 7 #[pgV g u, pgV q u'] w fun e w' => e = .returned (.bool true) ∧ Below w.heap.size w w' := by
  obtain ⟨a1, c1, a2, c2, a3, c3, a4, c4, rfl⟩ := h.shape
  obtain ⟨b1, d1, b2, d2, b3, d3, b4, d4, rfl⟩ := h'.shape
  obtain ⟨Y0, Z0, YB⟩ := two_boxes w 29 29 (pgL g ⟨.slice a1 g.K.length c1, .slice a2 g.wins.length c2, .slice a3 g.crons.length c3, .slice a4 g.C.length c4⟩) (pgL q ⟨.slice b1 q.K.length d1, .slice b2 q.wins.length d2, .slice b3 q.crons.length d3, .slice b4 q.C.length d4⟩)
  have HA := chid (awake22_c _ (err_next hg YB))
  have HY := chid Y0
  have HZ := chid Z0
  have HB := chid YB
  have HEg := chid (fun W (hb : Below w.heap.size w W) => cEncode_c g _ W (h.next hb))
  have HEq := chid (fun W (hb : Below w.heap.size w W) => cEncode_c q _ W (h'.next hb))
  have HSm := chid (fun W (hb : Below w.heap.size w W) => same_c g q _ _ W (h.next hb) (h'.next hb))
  have HO := chid (And.intro ho ho')
  clear h hg Y0 Z0 YB ho h' ho'
  go_enter Tryd.func7, Tryd.ntmps7
  go_wp2_with fail
  refine Calls.mono HA.out ?_
  rintro e w1 ⟨rfl, b1'⟩
  have B1 := chid (bel3 HB.out b1')
  have HY1 := chid (HY.out.next b1')
  have HZ1 := chid (HZ.out.next b1')
  clear b1'
  have z0 := HY1.out.cell 0 _ rfl
  have z1 := HY1.out.cell 1 _ rfl
  have z2 := HY1.out.cell 2 _ rfl
  have z3 := HY1.out.cell 3 _ rfl
  have z4 := HY1.out.cell 4 _ rfl
  have z5 := HY1.out.cell 5 _ rfl
  have z6 := HY1.out.cell 6 _ rfl
  have z7 := HY1.out.cell 7 _ rfl
  have z8 := HY1.out.cell 8 _ rfl
  have z9 := HY1.out.cell 9 _ rfl
  have z10 := HY1.out.cell 10 _ rfl
  have z11 := HY1.out.cell 11 _ rfl
  have zl := HY1.out.lt
  go_wp2_with fail
  refine Calls.mono (HEg.out w1 B1.out) ?_
  intro e w2 h2
  obtain ⟨b2', v2, n2, rfl, hv2, hn2⟩ := enc_at h2
  have B2 := chid (bel3 B1.out b2')
  have HY2 := chid (HY1.out.next b2')
  have HZ2 := chid (HZ1.out.next b2')
  obtain ⟨Lg, hLg⟩ : ∃ L, Hid (L = if toldB g = true then encF g else []) := ⟨_, chid rfl⟩
  rw [← hLg.out] at hv2
  have HN2 := chid hn2
  clear hn2
  have HV2 := chid hv2
  obtain ⟨av2, cv2, ev2, -, -⟩ := RowsK.shape hv2
  subst ev2
  clear h2 hv2 b2'
  clear z0 z1 z2 z3 z4 z5 z6 z7 z8 z9 z10 z11 zl
  have z0 := HZ2.out.cell 0 _ rfl
  have z1 := HZ2.out.cell 1 _ rfl
  have z2 := HZ2.out.cell 2 _ rfl
  have z3 := HZ2.out.cell 3 _ rfl
  have z4 := HZ2.out.cell 4 _ rfl
  have z5 := HZ2.out.cell 5 _ rfl
  have z6 := HZ2.out.cell 6 _ rfl
  have z7 := HZ2.out.cell 7 _ rfl
  have z8 := HZ2.out.cell 8 _ rfl
  have z9 := HZ2.out.cell 9 _ rfl
  have z10 := HZ2.out.cell 10 _ rfl
  have z11 := HZ2.out.cell 11 _ rfl
  have zl := HZ2.out.lt
  go_wp2_with fail
  refine Calls.mono (HEq.out w2 B2.out) ?_
  intro e w3 h3
  obtain ⟨b3', v3, n3, rfl, hv3, hn3⟩ := enc_at h3
  have B3 := chid (bel3 B2.out b3')
  have HY3 := chid (HY2.out.next b3')
  have HZ3 := chid (HZ2.out.next b3')
  obtain ⟨Lq, hLq⟩ : ∃ L, Hid (L = if toldB q = true then encF q else []) := ⟨_, chid rfl⟩
  rw [← hLq.out] at hv3
  have HN3 := chid hn3
  clear hn3
  have HSB := chid (sameB_c _ _ Lg Lq w3 (RowsK.next HV2.out b3') hv3)
  have HV2 := chid (RowsK.next HV2.out b3')
  have HV3 := chid hv3
  obtain ⟨av3, cv3, ev3, -, -⟩ := RowsK.shape hv3
  subst ev3
  clear h3 hv3 b3'
  clear z0 z1 z2 z3 z4 z5 z6 z7 z8 z9 z10 z11 zl
  cases hq : toldB g with
  | false =>
    have hn : n2 = 1 := by rw [HN2.out, hq]; rfl
    subst hn
    go_wp2_with fail
    go_ret
    exact ⟨rfl, B3.out⟩
  | true =>
  have hn : n2 = 0 := by rw [HN2.out, hq]; rfl
  subst hn
  cases hq' : toldB q with
  | false =>
    have hn : n3 = 1 := by rw [HN3.out, hq']; rfl
    subst hn
    go_wp2_with fail
    go_ret
    exact ⟨rfl, B3.out⟩
  | true =>
  have hn : n3 = 0 := by rw [HN3.out, hq']; rfl
  subst hn
  have hiff : (Lg == Lq) = true ↔ g = q := by
    rw [hLg.out, hLq.out, hq, hq']
    simp only [if_true, beq_iff_eq]
    exact ⟨fun h => enc_inj (told_iff.1 hq) HO.out.1 (told_iff.1 hq') HO.out.2 h, fun h => by rw [h]⟩
  obtain ⟨R, hR⟩ : ∃ R, Hid (R = (Lg == Lq)) := ⟨_, chid rfl⟩
  rw [← hR.out] at HSB hiff
  have HIf := chid hiff
  have HSm2 : Hid (∀ W, Below w.heap.size w W → Calls Tryd.prog 15 #[pgV g ⟨.slice a1 g.K.length c1, .slice a2 g.wins.length c2, .slice a3 g.crons.length c3, .slice a4 g.C.length c4⟩, pgV q ⟨.slice b1 q.K.length d1, .slice b2 q.wins.length d2, .slice b3 q.crons.length d3, .slice b4 q.C.length d4⟩] W fun e w' => e = .returned (.bool R) ∧ Below W.heap.size W w') := chid (fun W hb => (HSm.out W hb).mono fun e w' h => by
    obtain ⟨hb, R', rfl, hr⟩ := h
    refine ⟨?_, hb⟩
    have : R' = R := Bool.eq_iff_iff.2 (hr.trans HIf.out.symm)
    rw [this])
  have z0 := HY3.out.cell 0 _ rfl
  have z1 := HY3.out.cell 1 _ rfl
  have z2 := HY3.out.cell 2 _ rfl
  have z3 := HY3.out.cell 3 _ rfl
  have z4 := HY3.out.cell 4 _ rfl
  have z5 := HY3.out.cell 5 _ rfl
  have z6 := HY3.out.cell 6 _ rfl
  have z7 := HY3.out.cell 7 _ rfl
  have z8 := HY3.out.cell 8 _ rfl
  have z9 := HY3.out.cell 9 _ rfl
  have z10 := HY3.out.cell 10 _ rfl
  have z11 := HY3.out.cell 11 _ rfl
  have zl := HY3.out.lt
  have x0 := HZ3.out.cell 0 _ rfl
  have x1 := HZ3.out.cell 1 _ rfl
  have x2 := HZ3.out.cell 2 _ rfl
  have x3 := HZ3.out.cell 3 _ rfl
  have x4 := HZ3.out.cell 4 _ rfl
  have x5 := HZ3.out.cell 5 _ rfl
  have x6 := HZ3.out.cell 6 _ rfl
  have x7 := HZ3.out.cell 7 _ rfl
  have x8 := HZ3.out.cell 8 _ rfl
  have x9 := HZ3.out.cell 9 _ rfl
  have x10 := HZ3.out.cell 10 _ rfl
  have x11 := HZ3.out.cell 11 _ rfl
  have xl := HZ3.out.lt
  clear hiff
  go_wp2_with fail
  have HSm3 : Hid (∀ W, Below w.heap.size w W → Calls Tryd.prog 15 #[.agg #[.int .i64 g.met, .int .i64 g.ru.mn, .int .i64 g.ru.mx, .int .i64 g.ru.st, .int .i64 g.ru.up, .int .i64 g.ru.dn, .slice a1 g.K.length c1, .slice a2 g.wins.length c2, .slice a3 g.crons.length c3, .int .i64 g.loc, .int .i64 g.h, .slice a4 g.C.length c4], .agg #[.int .i64 q.met, .int .i64 q.ru.mn, .int .i64 q.ru.mx, .int .i64 q.ru.st, .int .i64 q.ru.up, .int .i64 q.ru.dn, .slice b1 q.K.length d1, .slice b2 q.wins.length d2, .slice b3 q.crons.length d3, .int .i64 q.loc, .int .i64 q.h, .slice b4 q.C.length d4]] W fun e w' => e = .returned (.bool R) ∧ Below W.heap.size W w') := chid HSm2.out
  have HSB3 : Hid (∀ W, Below w3.heap.size w3 W → Calls Tryd.prog 12 #[.slice av2 Lg.length cv2, .slice av3 Lq.length cv3] W fun e w' => e = .returned (.bool R) ∧ Below W.heap.size W w') := chid (fun W hb => by
    have := sameB_c _ _ Lg Lq W (RowsK.next HV2.out hb) (RowsK.next HV3.out hb)
    rw [← hR.out] at this
    exact this)
  clear HSm2 HSm HSB HV2 HV3 HN2 HN3 HEg HEq HA HIf HY HZ HY1 HZ1 HY2 HZ2 HY3 HZ3 HO
  generalize pgV g _ = pgg at *
  generalize pgV q _ = pgq at *
  generalize (.int .i64 g.met : Value) = m0 at *
  generalize (.int .i64 g.ru.mn : Value) = m1 at *
  generalize (.int .i64 g.ru.mx : Value) = m2 at *
  generalize (.int .i64 g.ru.st : Value) = m3 at *
  generalize (.int .i64 g.ru.up : Value) = m4 at *
  generalize (.int .i64 g.ru.dn : Value) = m5 at *
  generalize (.slice a1 g.K.length c1 : Value) = m6 at *
  generalize (.slice a2 g.wins.length c2 : Value) = m7 at *
  generalize (.slice a3 g.crons.length c3 : Value) = m8 at *
  generalize (.int .i64 g.loc : Value) = m9 at *
  generalize (.int .i64 g.h : Value) = m10 at *
  generalize (.slice a4 g.C.length c4 : Value) = m11 at *
  generalize (.int .i64 q.met : Value) = o0 at *
  generalize (.int .i64 q.ru.mn : Value) = o1 at *
  generalize (.int .i64 q.ru.mx : Value) = o2 at *
  generalize (.int .i64 q.ru.st : Value) = o3 at *
  generalize (.int .i64 q.ru.up : Value) = o4 at *
  generalize (.int .i64 q.ru.dn : Value) = o5 at *
  generalize (.slice b1 q.K.length d1 : Value) = o6 at *
  generalize (.slice b2 q.wins.length d2 : Value) = o7 at *
  generalize (.slice b3 q.crons.length d3 : Value) = o8 at *
  generalize (.int .i64 q.loc : Value) = o9 at *
  generalize (.int .i64 q.h : Value) = o10 at *
  generalize (.slice b4 q.C.length d4 : Value) = o11 at *
  go_region_held3 (fun w' => w'.cell? ⟨w.heap.size, 0, none⟩ = some m0 ∧ w'.cell? ⟨w.heap.size, 1, none⟩ = some m1 ∧ w'.cell? ⟨w.heap.size, 2, none⟩ = some m2 ∧ w'.cell? ⟨w.heap.size, 3, none⟩ = some m3 ∧ w'.cell? ⟨w.heap.size, 4, none⟩ = some m4 ∧ w'.cell? ⟨w.heap.size, 5, none⟩ = some m5 ∧ w'.cell? ⟨w.heap.size, 6, none⟩ = some m6 ∧ w'.cell? ⟨w.heap.size, 7, none⟩ = some m7 ∧ w'.cell? ⟨w.heap.size, 8, none⟩ = some m8 ∧ w'.cell? ⟨w.heap.size, 9, none⟩ = some m9 ∧ w'.cell? ⟨w.heap.size, 10, none⟩ = some m10 ∧ w'.cell? ⟨w.heap.size, 11, none⟩ = some m11 ∧ w'.cell? ⟨w.heap.size + 1, 0, none⟩ = some o0 ∧ w'.cell? ⟨w.heap.size + 1, 1, none⟩ = some o1 ∧ w'.cell? ⟨w.heap.size + 1, 2, none⟩ = some o2 ∧ w'.cell? ⟨w.heap.size + 1, 3, none⟩ = some o3 ∧ w'.cell? ⟨w.heap.size + 1, 4, none⟩ = some o4 ∧ w'.cell? ⟨w.heap.size + 1, 5, none⟩ = some o5 ∧ w'.cell? ⟨w.heap.size + 1, 6, none⟩ = some o6 ∧ w'.cell? ⟨w.heap.size + 1, 7, none⟩ = some o7 ∧ w'.cell? ⟨w.heap.size + 1, 8, none⟩ = some o8 ∧ w'.cell? ⟨w.heap.size + 1, 9, none⟩ = some o9 ∧ w'.cell? ⟨w.heap.size + 1, 10, none⟩ = some o10 ∧ w'.cell? ⟨w.heap.size + 1, 11, none⟩ = some o11) (simp [go_sem, *]) (first | (go_at_call 12; refine Calls.mono (HSB3.out _ (Below.refl _ _).drew) ?_; rintro e w4 ⟨rfl, b4⟩; have BW : Below w3.heap.size w3 w4 := ⟨b4.os, b4.tape, b4.output, b4.size, b4.block⟩; replace z0 := keepc BW z0; replace z1 := keepc BW z1; replace z2 := keepc BW z2; replace z3 := keepc BW z3; replace z4 := keepc BW z4; replace z5 := keepc BW z5; replace z6 := keepc BW z6; replace z7 := keepc BW z7; replace z8 := keepc BW z8; replace z9 := keepc BW z9; replace z10 := keepc BW z10; replace z11 := keepc BW z11; replace x0 := keepc BW x0; replace x1 := keepc BW x1; replace x2 := keepc BW x2; replace x3 := keepc BW x3; replace x4 := keepc BW x4; replace x5 := keepc BW x5; replace x6 := keepc BW x6; replace x7 := keepc BW x7; replace x8 := keepc BW x8; replace x9 := keepc BW x9; replace x10 := keepc BW x10; replace x11 := keepc BW x11; have HB4 := chid (bel3 B3.out BW); have zl4 : w.heap.size < w4.heap.size := Nat.lt_of_lt_of_le zl BW.size; have xl4 : w.heap.size + 1 < w4.heap.size := Nat.lt_of_lt_of_le xl BW.size; clear b4 BW) | (go_at_call 15; refine Calls.mono (HSm3.out w4 HB4.out) ?_; rintro e w5 ⟨rfl, b5⟩; replace z0 := keepc b5 z0; replace z1 := keepc b5 z1; replace z2 := keepc b5 z2; replace z3 := keepc b5 z3; replace z4 := keepc b5 z4; replace z5 := keepc b5 z5; replace z6 := keepc b5 z6; replace z7 := keepc b5 z7; replace z8 := keepc b5 z8; replace z9 := keepc b5 z9; replace z10 := keepc b5 z10; replace z11 := keepc b5 z11; replace x0 := keepc b5 x0; replace x1 := keepc b5 x1; replace x2 := keepc b5 x2; replace x3 := keepc b5 x3; replace x4 := keepc b5 x4; replace x5 := keepc b5 x5; replace x6 := keepc b5 x6; replace x7 := keepc b5 x7; replace x8 := keepc b5 x8; replace x9 := keepc b5 x9; replace x10 := keepc b5 x10; replace x11 := keepc b5 x11; have HB5 := chid (bel3 HB4.out b5); clear b5))
  go_wp2_with fail
  go_ret
  exact ⟨by simp, HB5.out⟩
end Go.Proofs.YtgfimpphpadmgaaDoor

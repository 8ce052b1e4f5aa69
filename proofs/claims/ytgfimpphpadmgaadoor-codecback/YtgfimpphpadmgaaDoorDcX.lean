/- Package codec: the law CodecBack walked. -/
import Derived.Test.YtgfimpphpadmgaaDoorDcV
namespace Go.Proofs.YtgfimpphpadmgaaDoor
open Go.RowKit

set_option maxHeartbeats 4000000 in
set_option maxRecDepth 20000 in
theorem codecBack_c (g : PgP) (u : PgV) (bl : List UInt8) (bv : Value) (w : World) (h : PgRd w g u) (ho : PgOk g) (hbl : ByAt w bv bl) (hg : ErrG w) :
    Calls Tryd.prog 5 #[pgV g u, bv] w fun e w' => e = .returned (.bool true) ∧ Below w.heap.size w w' := by
  obtain ⟨a1, c1, a2, c2, a3, c3, a4, c4, rfl⟩ := h.shape
  obtain ⟨ba, bc, rfl, -, -⟩ := RowsK.shape hbl
  obtain ⟨Y0, YB⟩ := one_box w 29 (pgL g ⟨.slice a1 g.K.length c1, .slice a2 g.wins.length c2, .slice a3 g.crons.length c3, .slice a4 g.C.length c4⟩)
  have HA := chid (awake22_c _ (err_next hg YB))
  have HY := chid Y0
  have HB := chid YB
  have HO := chid ho
  have HEn := chid (fun W (hb : Below w.heap.size w W) => cEncode_c g _ W (h.next hb))
  have HDb := chid (fun W (hb : Below w.heap.size w W) => cDecode_c bl _ W (RowsK.next hbl hb) (err_next hg hb))
  have HBl := chid (fun W (hb : Below w.heap.size w W) => (RowsK.next hbl hb : ByAt W _ bl))
  have HG := chid (fun W (hb : Below w.heap.size w W) => err_next hg hb)
  have HR := chid (fun W (hb : Below w.heap.size w W) => h.next hb)
  clear h hg Y0 YB ho hbl
  go_enter Tryd.func5, Tryd.ntmps5
  go_wp2_with fail
  refine Calls.mono HA.out ?_
  rintro e w1 ⟨rfl, b1⟩
  have B1 := chid (bel3 HB.out b1)
  have HY1 := chid (HY.out.next b1)
  clear b1
  have z0 := HY1.out.cell 0 _ rfl
  have z1 := HY1.out.cell 1 _ rfl
  have z2 := HY1.out.cell 2 _ rfl
  have z3 := HY1.out.cell 3 _ rfl
  have z4 := HY1.out.cell 4 _ rfl
  have z5 := HY1.out.cell 5 _ rfl
  have z6 := HY1.out.cell 6 _ rfl
  have z7 := HY1.out.cell 7 _ rfl
  have z8 := HY1.out.cell 8 _ rfl
  have z9 := HY1.out.cell 9 _ rfl
  have z10 := HY1.out.cell 10 _ rfl
  have z11 := HY1.out.cell 11 _ rfl
  have zl := HY1.out.lt
  go_wp2_with fail
  refine Calls.mono (HEn.out w1 B1.out) ?_
  intro e w2 h2
  clear z0 z1 z2 z3 z4 z5 z6 z7 z8 z9 z10 z11 zl
  cases hq : toldB g with
  | false =>
    obtain ⟨b2, rfl⟩ := enc_not hq h2
    have B2 := chid (bel3 B1.out b2)
    clear h2 b2
    go_wp2_with fail
    have HD9 := chid (HDb.out w2 B2.out)
    refine Calls.mono HD9.out ?_
    intro e wd hd
    obtain ⟨bd, he⟩ := hd
    have Bd := chid (bel3 B2.out bd)
    by_cases hlong : 1048576 < bl.length
    · rw [if_pos hlong] at he
      subst he
      have HSz := chid (fun W => same_c pg0 pg0 ⟨.slice none 0 0, .slice none 0 0, .slice none 0 0, .slice none 0 0⟩ ⟨.slice none 0 0, .slice none 0 0, .slice none 0 0, .slice none 0 0⟩ W ⟨nil_rows _ _ _, nil_rows _ _ _, nil_rows _ _ _, nil_rows _ _ _⟩ ⟨nil_rows _ _ _, nil_rows _ _ _, nil_rows _ _ _, nil_rows _ _ _⟩)
      clear bd hlong
      go_wp2_with fail
      refine Calls.mono (HSz.out _) ?_
      intro e w9 h9
      obtain ⟨b9, rfl⟩ := same_t h9 rfl
      have B9 := chid (bel3 (Bd.out.alloc Bd.out.size _) b9)
      clear h9 b9
      go_wp2_with fail
      go_ret
      exact ⟨rfl, B9.out⟩
    · rw [if_neg hlong] at he
      cases hdec : decF bl with
      | none =>
        rw [hdec] at he
        subst he
        have HSz := chid (fun W => same_c pg0 pg0 ⟨.slice none 0 0, .slice none 0 0, .slice none 0 0, .slice none 0 0⟩ ⟨.slice none 0 0, .slice none 0 0, .slice none 0 0, .slice none 0 0⟩ W ⟨nil_rows _ _ _, nil_rows _ _ _, nil_rows _ _ _, nil_rows _ _ _⟩ ⟨nil_rows _ _ _, nil_rows _ _ _, nil_rows _ _ _, nil_rows _ _ _⟩)
        clear bd hlong
        go_wp2_with fail
        refine Calls.mono (HSz.out _) ?_
        intro e w9 h9
        obtain ⟨b9, rfl⟩ := same_t h9 rfl
        have B9 := chid (bel3 (Bd.out.alloc Bd.out.size _) b9)
        clear h9 b9
        go_wp2_with fail
        go_ret
        exact ⟨rfl, B9.out⟩
      | some gq =>
        rw [hdec] at he
        obtain ⟨uq, rfl, hnq⟩ := he
        have HE9 := chid (enc_dec hdec)
        obtain ⟨m1, k1, m2, k2, m3, k3, m4, k4, rfl⟩ := hnq.shape
        have HEq := chid (fun W (hb : Below wd.heap.size wd W) => cEncode_c gq _ W (hnq.rd.next hb))
        have HBd := chid (HBl.out wd Bd.out)
        clear bd hlong hnq hdec
        go_wp2_with fail
        have al := bel_alloc wd (.cells (pgL gq ⟨.slice m1 gq.K.length k1, .slice m2 gq.wins.length k2, .slice m3 gq.crons.length k3, .slice m4 gq.C.length k4⟩).toArray 29)
        refine Calls.mono (HEq.out _ al) ?_
        intro e w9 h9
        obtain ⟨b9, dv, rfl, hdv⟩ := enc_of (told_iff.2 HE9.out.2.1) h9
        have B9 := chid (bel3 (bel3 Bd.out al) b9)
        have HS9 := sameB_c _ dv bl (encF gq) w9 (RowsK.next HBd.out (bel3 al b9)) hdv.at
        rw [show (bl == encF gq) = true by rw [← HE9.out.1]; simp] at HS9
        have HS9 := chid HS9
        obtain ⟨da, dc, ddv⟩ := own_shape hdv
        subst ddv
        clear h9 b9 hdv al
        go_wp2_with fail
        refine Calls.mono HS9.out ?_
        rintro e w10 ⟨rfl, b10⟩
        have B10 := chid (bel3 B9.out b10)
        clear b10
        go_wp2_with fail
        go_ret
        exact ⟨rfl, B10.out⟩
  | true =>
    obtain ⟨b2, v, rfl, hv⟩ := enc_of hq h2
    have B2 := chid (bel3 B1.out b2)
    have HD2 := chid (cDecode_c _ _ w2 hv.at (HG.out w2 B2.out))
    have HQ := chid hq
    have bb2 := b2
    obtain ⟨va, vc, hvv⟩ := own_shape hv
    subst hvv
    clear h2 b2 hv
    go_wp2_with fail
    refine Calls.mono HD2.out ?_
    intro e w3 h3
    obtain ⟨b3, x, rfl, hx⟩ := dec_of HQ.out HO.out h3
    have B3 := chid (bel3 B2.out b3)
    have HX := chid hx.rd
    obtain ⟨b1, d1, b2, d2, b3', d3, b4, d4, rfl⟩ := hx.shape
    have al3 := bel_alloc w3 (.cells (pgL g ⟨.slice b1 g.K.length d1, .slice b2 g.wins.length d2, .slice b3' g.crons.length d3, .slice b4 g.C.length d4⟩).toArray 29)
    have YP := ((HY1.out.next bb2).next b3).next al3
    have HSm := chid (same_c g g _ _ _ (HR.out _ (bel3 B3.out al3)) (HX.out.next al3))
    have B3a := chid (bel3 B3.out al3)
    have z0 := YP.cell 0 _ rfl
    have z1 := YP.cell 1 _ rfl
    have z2 := YP.cell 2 _ rfl
    have z3 := YP.cell 3 _ rfl
    have z4 := YP.cell 4 _ rfl
    have z5 := YP.cell 5 _ rfl
    have z6 := YP.cell 6 _ rfl
    have z7 := YP.cell 7 _ rfl
    have z8 := YP.cell 8 _ rfl
    have z9 := YP.cell 9 _ rfl
    have z10 := YP.cell 10 _ rfl
    have z11 := YP.cell 11 _ rfl
    have zl := YP.lt
    clear h3 b3 hx al3 YP bb2
    go_wp2_with fail
    refine Calls.mono HSm.out ?_
    intro e w4 h4
    obtain ⟨b4', rfl⟩ := same_t h4 rfl
    have B4 := chid (bel3 B3a.out b4')
    clear h4 b4'
    clear z0 z1 z2 z3 z4 z5 z6 z7 z8 z9 z10 z11 zl
    go_wp2_with fail
    have HD9 := chid (HDb.out w4 B4.out)
    refine Calls.mono HD9.out ?_
    intro e wd hd
    obtain ⟨bd, he⟩ := hd
    have Bd := chid (bel3 B4.out bd)
    by_cases hlong : 1048576 < bl.length
    · rw [if_pos hlong] at he
      subst he
      have HSz := chid (fun W => same_c pg0 pg0 ⟨.slice none 0 0, .slice none 0 0, .slice none 0 0, .slice none 0 0⟩ ⟨.slice none 0 0, .slice none 0 0, .slice none 0 0, .slice none 0 0⟩ W ⟨nil_rows _ _ _, nil_rows _ _ _, nil_rows _ _ _, nil_rows _ _ _⟩ ⟨nil_rows _ _ _, nil_rows _ _ _, nil_rows _ _ _, nil_rows _ _ _⟩)
      clear bd hlong
      go_wp2_with fail
      refine Calls.mono (HSz.out _) ?_
      intro e w9 h9
      obtain ⟨b9, rfl⟩ := same_t h9 rfl
      have B9 := chid (bel3 (Bd.out.alloc Bd.out.size _) b9)
      clear h9 b9
      go_wp2_with fail
      go_ret
      exact ⟨rfl, B9.out⟩
    · rw [if_neg hlong] at he
      cases hdec : decF bl with
      | none =>
        rw [hdec] at he
        subst he
        have HSz := chid (fun W => same_c pg0 pg0 ⟨.slice none 0 0, .slice none 0 0, .slice none 0 0, .slice none 0 0⟩ ⟨.slice none 0 0, .slice none 0 0, .slice none 0 0, .slice none 0 0⟩ W ⟨nil_rows _ _ _, nil_rows _ _ _, nil_rows _ _ _, nil_rows _ _ _⟩ ⟨nil_rows _ _ _, nil_rows _ _ _, nil_rows _ _ _, nil_rows _ _ _⟩)
        clear bd hlong
        go_wp2_with fail
        refine Calls.mono (HSz.out _) ?_
        intro e w9 h9
        obtain ⟨b9, rfl⟩ := same_t h9 rfl
        have B9 := chid (bel3 (Bd.out.alloc Bd.out.size _) b9)
        clear h9 b9
        go_wp2_with fail
        go_ret
        exact ⟨rfl, B9.out⟩
      | some gq =>
        rw [hdec] at he
        obtain ⟨uq, rfl, hnq⟩ := he
        have HE9 := chid (enc_dec hdec)
        obtain ⟨m1, k1, m2, k2, m3, k3, m4, k4, rfl⟩ := hnq.shape
        have HEq := chid (fun W (hb : Below wd.heap.size wd W) => cEncode_c gq _ W (hnq.rd.next hb))
        have HBd := chid (HBl.out wd Bd.out)
        clear bd hlong hnq hdec
        go_wp2_with fail
        have al := bel_alloc wd (.cells (pgL gq ⟨.slice m1 gq.K.length k1, .slice m2 gq.wins.length k2, .slice m3 gq.crons.length k3, .slice m4 gq.C.length k4⟩).toArray 29)
        refine Calls.mono (HEq.out _ al) ?_
        intro e w9 h9
        obtain ⟨b9, dv, rfl, hdv⟩ := enc_of (told_iff.2 HE9.out.2.1) h9
        have B9 := chid (bel3 (bel3 Bd.out al) b9)
        have HS9 := sameB_c _ dv bl (encF gq) w9 (RowsK.next HBd.out (bel3 al b9)) hdv.at
        rw [show (bl == encF gq) = true by rw [← HE9.out.1]; simp] at HS9
        have HS9 := chid HS9
        obtain ⟨da, dc, ddv⟩ := own_shape hdv
        subst ddv
        clear h9 b9 hdv al
        go_wp2_with fail
        refine Calls.mono HS9.out ?_
        rintro e w10 ⟨rfl, b10⟩
        have B10 := chid (bel3 B9.out b10)
        clear b10
        go_wp2_with fail
        go_ret
        exact ⟨rfl, B10.out⟩
end Go.Proofs.YtgfimpphpadmgaaDoor

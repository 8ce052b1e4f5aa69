/- Package codec: laws walked. -/
import Derived.Test.YtgfimpphpadmgaaDoorDcR
namespace Go.Proofs.YtgfimpphpadmgaaDoor
open Go.RowKit

theorem bel3 {w a b : World} (h : Below w.heap.size w a) (k : Below a.heap.size a b) : Below w.heap.size w b := cbelow_on h k h.size
/-- What an encoded program's bytes are behind the call. -/
theorem enc_at {g : PgP} {w : World} {e : Ending} {w' : World} (h : EncP g w e w') : Below w.heap.size w w' ∧ ∃ v n, e = .returned (.tuple #[v, .int .i64 n]) ∧ ByAt w' v (if toldB g then encF g else []) ∧ n = (if toldB g then 0 else 1) := by
  obtain ⟨hb, h⟩ := h
  rcases h with ⟨ht, rfl⟩ | ⟨ht, v, rfl, hv⟩
  · exact ⟨hb, _, _, rfl, by rw [ht]; exact nil_rows _ _ _, by rw [ht]; rfl⟩
  · exact ⟨hb, v, _, rfl, by rw [ht]; exact hv.at, by rw [ht]; rfl⟩
set_option maxHeartbeats 2000000 in
set_option maxRecDepth 20000 in
theorem codecEncodes_c (g : PgP) (u : PgV) (w : World) (h : PgRd w g u) (ho : PgOk g) (hg : ErrG w) :
    Calls Tryd.prog 3 #[pgV g u] w fun e w' => e = .returned (.bool true) ∧ Below w.heap.size w w' := by
  obtain ⟨a1, c1, a2, c2, a3, c3, a4, c4, rfl⟩ := h.shape
  obtain ⟨Y0, YB⟩ := one_box w 29 (pgL g ⟨.slice a1 g.K.length c1, .slice a2 g.wins.length c2, .slice a3 g.crons.length c3, .slice a4 g.C.length c4⟩)
  have HA := chid (awake22_c _ (err_next hg YB))
  have HY := chid Y0
  have HB := chid YB
  have HO := chid ho
  have HEn := chid (fun W (hb : Below w.heap.size w W) => cEncode_c g _ W (h.next hb))
  have HRn := chid (fun W (hb : Below w.heap.size w W) => rEncode_c g _ W (h.next hb))
  have HG := chid (fun W (hb : Below w.heap.size w W) => err_next hg hb)
  have HR := chid (fun W (hb : Below w.heap.size w W) => h.next hb)
  clear h hg Y0 YB ho
  go_enter Tryd.func3, Tryd.ntmps3
  go_wp2_with fail
  refine Calls.mono HA.out ?_
  rintro e w1 ⟨rfl, b1⟩
  have B1 := chid (bel3 HB.out b1)
  have HY1 := chid (HY.out.next b1)
  clear b1
  have z0 := HY1.out.cell 0 _ rfl
  have z1 := HY1.out.cell 1 _ rfl
  have z2 := HY1.out.cell 2 _ rfl
  have z3 := HY1.out.cell 3 _ rfl
  have z4 := HY1.out.cell 4 _ rfl
  have z5 := HY1.out.cell 5 _ rfl
  have z6 := HY1.out.cell 6 _ rfl
  have z7 := HY1.out.cell 7 _ rfl
  have z8 := HY1.out.cell 8 _ rfl
  have z9 := HY1.out.cell 9 _ rfl
  have z10 := HY1.out.cell 10 _ rfl
  have z11 := HY1.out.cell 11 _ rfl
  have zl := HY1.out.lt
  go_wp2_with fail
  refine Calls.mono (HEn.out w1 B1.out) ?_
  intro e w2 h2
  obtain ⟨b2, v2, n2, rfl, hv2, hn2⟩ := enc_at h2
  have B2 := chid (bel3 B1.out b2)
  have HY2 := chid (HY1.out.next b2)
  have HV2 := chid hv2
  obtain ⟨av2, cv2, ev2, -, -⟩ := RowsK.shape hv2
  obtain ⟨L, hL⟩ : ∃ L, Hid (L = if toldB g = true then encF g else []) := ⟨_, chid rfl⟩
  obtain ⟨n, hN⟩ : ∃ n : Int, Hid (n = if toldB g = true then 0 else 1) := ⟨_, chid rfl⟩
  rw [← hL.out] at HV2 ev2
  rw [← hN.out] at hn2
  subst hn2
  subst ev2
  clear h2 hv2
  clear z0 z1 z2 z3 z4 z5 z6 z7 z8 z9 z10 z11 zl
  have z0 := HY2.out.cell 0 _ rfl
  have z1 := HY2.out.cell 1 _ rfl
  have z2 := HY2.out.cell 2 _ rfl
  have z3 := HY2.out.cell 3 _ rfl
  have z4 := HY2.out.cell 4 _ rfl
  have z5 := HY2.out.cell 5 _ rfl
  have z6 := HY2.out.cell 6 _ rfl
  have z7 := HY2.out.cell 7 _ rfl
  have z8 := HY2.out.cell 8 _ rfl
  have z9 := HY2.out.cell 9 _ rfl
  have z10 := HY2.out.cell 10 _ rfl
  have z11 := HY2.out.cell 11 _ rfl
  have zl := HY2.out.lt
  go_wp2_with fail
  refine Calls.mono (HRn.out w2 B2.out) ?_
  intro e w3 h2
  obtain ⟨b2, v3, n3, rfl, hv3, hn3⟩ := enc_at h2
  have B3 := chid (bel3 B2.out b2)
  have HY3 := chid (HY2.out.next b2)
  have HV3 := chid hv3
  obtain ⟨av3, cv3, ev3, -, -⟩ := RowsK.shape hv3
  rw [← hL.out] at HV3 ev3
  rw [← hN.out] at hn3
  subst hn3
  subst ev3
  have HS := chid (sameB_c _ _ L L w3 (RowsK.next HV2.out b2) HV3.out)
  clear h2 hv3
  clear z0 z1 z2 z3 z4 z5 z6 z7 z8 z9 z10 z11 zl
  have HS2 : Hid (Calls Tryd.prog 12 #[.slice av2 L.length cv2, .slice av3 L.length cv3] w3 fun e w' => e = .returned (.bool true) ∧ Below w3.heap.size w3 w') := chid (by
    have := HS.out
    rw [show (L == L) = true by simp] at this
    exact this)
  clear HS
  go_wp2_with fail
  refine Calls.mono HS2.out ?_
  rintro e w4 ⟨rfl, b4⟩
  go_wp2_with fail
  go_ret
  exact ⟨rfl, bel3 B3.out b4⟩
end Go.Proofs.YtgfimpphpadmgaaDoor

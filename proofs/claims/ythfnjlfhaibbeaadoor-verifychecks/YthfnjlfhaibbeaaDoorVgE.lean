/- Package verify: the law VerifyChecks walked. -/
import Derived.Test.YthfnjlfhaibbeaaDoorVgD
namespace Go.Proofs.YthfnjlfhaibbeaaDoor
open Go.RowKit

def knF (g : PgP) : List (Option St) := match looksF cfB g with
  | (some pl, _) => pl
  | (none, _) => []
theorem kn_he (g : PgP) : (heF g).1 = (knF g).map htO ∧ (heF g).2 = (ckF g).2 := by
  unfold heF knF ckF
  cases hl : looksF cfB g with
  | mk q n => cases q <;> exact ⟨rfl, rfl⟩
theorem kw_rows {w : World} {qb : Nat} {pl : List (Option St)} (h : Box w qb (flR kwL pl)) (hl : pl.length ≤ 16384) : RowsK w (.slice (some ⟨qb, 0, none⟩) pl.length pl.length) pl.length 3 (fun i => kwL (pl.getD i none)) := by
  refine ⟨some ⟨qb, 0, none⟩, pl.length, rfl, Nat.le_refl _, by omega, .inr ⟨qb, 0, rfl, h.lt, fun i hi j x hx => ?_⟩⟩
  have hg : pl.getD i none = pl[i] := by simp [List.getD, hi]
  have hx' : (kwL pl[i])[j]? = some x := by rw [← hg]; exact hx
  have := h.cell _ _ (flR_at (k := 3) kwL_len pl i j pl[i] x (List.getElem?_eq_getElem hi) hx')
  have e : 0 + i * 3 + j = i * 3 + j := by omega
  exact e ▸ this
theorem lk_all {g : PgP} {w : World} {e : Ending} {w' : World} (h : LkP g w e w') : Below w.heap.size w w' ∧ ∃ v, e = .returned (.tuple #[v, .int .i64 (ckF g).1, .int .i64 (ckF g).2]) ∧ RowsK w' v (knF g).length 3 (fun i => kwL ((knF g).getD i none)) := by
  obtain ⟨hb, h⟩ := h
  refine ⟨hb, ?_⟩
  unfold ckF knF
  cases hl : looksF cfB g with
  | mk q n =>
    rw [hl] at h
    cases q with
    | none => exact ⟨_, h, nil_rowsV _ _ _⟩
    | some pl =>
      obtain ⟨qb, h1, h2, -⟩ := h
      have := looks_len hl
      exact ⟨_, h1, kw_rows h2 (by omega)⟩
set_option maxHeartbeats 2000000 in
set_option maxRecDepth 20000 in
theorem verifyChecks_c (g : PgP) (u : PgV) (w : World) (h : PgRd w g u) (ho : PgOk g) (hF : FldAt w) (hT : TabAt w) :
    Calls Tryd.prog 4 #[pgV g u] w fun e w' => e = .returned (.bool true) ∧ Below w.heap.size w w' := by
  obtain ⟨a1, c1, a2, c2, a3, c3, a4, c4, rfl⟩ := h.shapeV
  obtain ⟨Y0, YB⟩ := one_box w 31 (pgL g (⟨.slice a1 g.K.length c1, .slice a2 g.wins.length c2, .slice a3 g.crons.length c3, .slice a4 g.C.length c4⟩ : PgV))
  have HA := chid (awake23_c _ (hF.later YB) (hT.next YB))
  have HCk := chid (fun W (hb : Below w.heap.size w W) => check_c g _ W (h.next hb) ho (hF.later hb) (hT.next hb))
  have HLk := chid (fun W (hb : Below w.heap.size w W) => (rLooks_c g _ W (h.next hb) ho).mono fun e w' h => lk_all h)
  have HHt := chid (fun W (hb : Below w.heap.size w W) => (heights_c g _ W (h.next hb) ho (hF.later hb) (hT.next hb)).mono fun e w' h => he_all h)
  have HY := chid Y0
  have HB := chid YB
  have hkh := kn_he g
  have hlen := he_len g
  rw [hkh.1] at hlen HHt
  rw [hkh.2] at HHt
  rw [List.length_map] at hlen
  clear hkh h ho hF hT Y0 YB
  generalize ckF g = q at HCk HLk HHt
  generalize knF g = pl at HLk HHt hlen
  obtain ⟨c0, ce⟩ := q
  dsimp only at HCk HLk HHt
  go_enter Tryd.func4, Tryd.ntmps4
  go_wp2_with fail
  refine Calls.mono HA.out ?_
  rintro e w1 ⟨rfl, b1⟩
  have B1 := chid (bel_to HB.out b1)
  have HY1 := chid (HY.out.next b1)
  clear b1 HA HB HY
  have z0 := HY1.out.cell 0 _ rfl
  have z1 := HY1.out.cell 1 _ rfl
  have z2 := HY1.out.cell 2 _ rfl
  have z3 := HY1.out.cell 3 _ rfl
  have z4 := HY1.out.cell 4 _ rfl
  have z5 := HY1.out.cell 5 _ rfl
  have z6 := HY1.out.cell 6 _ rfl
  have z7 := HY1.out.cell 7 _ rfl
  have z8 := HY1.out.cell 8 _ rfl
  have z9 := HY1.out.cell 9 _ rfl
  have z10 := HY1.out.cell 10 _ rfl
  have z11 := HY1.out.cell 11 _ rfl
  have zl := HY1.out.lt
  go_wp2_with fail
  refine Calls.mono (HCk.out w1 B1.out) ?_
  rintro e w2 ⟨rfl, b2⟩
  have B2 := chid (bel_to B1.out b2)
  have HY2 := chid (HY1.out.next b2)
  clear b2 HY1 HCk
  clear z0 z1 z2 z3 z4 z5 z6 z7 z8 z9 z10 z11 zl
  have z0 := HY2.out.cell 0 _ rfl
  have z1 := HY2.out.cell 1 _ rfl
  have z2 := HY2.out.cell 2 _ rfl
  have z3 := HY2.out.cell 3 _ rfl
  have z4 := HY2.out.cell 4 _ rfl
  have z5 := HY2.out.cell 5 _ rfl
  have z6 := HY2.out.cell 6 _ rfl
  have z7 := HY2.out.cell 7 _ rfl
  have z8 := HY2.out.cell 8 _ rfl
  have z9 := HY2.out.cell 9 _ rfl
  have z10 := HY2.out.cell 10 _ rfl
  have z11 := HY2.out.cell 11 _ rfl
  have zl := HY2.out.lt
  go_wp2_with fail
  refine Calls.mono (HLk.out w2 B2.out) ?_
  rintro e w3 ⟨b3, kv, rfl, hk3⟩
  have B3 := chid (bel_to B2.out b3)
  have HY3 := chid (HY2.out.next b3)
  have HK3 := chid hk3
  obtain ⟨ka, kc, rfl, -, -⟩ := RowsK.shape hk3
  clear b3 HY2 HLk hk3
  clear z0 z1 z2 z3 z4 z5 z6 z7 z8 z9 z10 z11 zl
  have z0 := HY3.out.cell 0 _ rfl
  have z1 := HY3.out.cell 1 _ rfl
  have z2 := HY3.out.cell 2 _ rfl
  have z3 := HY3.out.cell 3 _ rfl
  have z4 := HY3.out.cell 4 _ rfl
  have z5 := HY3.out.cell 5 _ rfl
  have z6 := HY3.out.cell 6 _ rfl
  have z7 := HY3.out.cell 7 _ rfl
  have z8 := HY3.out.cell 8 _ rfl
  have z9 := HY3.out.cell 9 _ rfl
  have z10 := HY3.out.cell 10 _ rfl
  have z11 := HY3.out.cell 11 _ rfl
  have zl := HY3.out.lt
  go_wp2_with fail
  refine Calls.mono (HHt.out w3 B3.out) ?_
  rintro e w4 ⟨b4, hv, rfl, oh⟩
  have B4 := chid (bel_to B3.out b4)
  have HK4 := chid (RowsK.next HK3.out b4)
  have RH := chid (in_rows oh)
  obtain ⟨ra, rc, rfl, -, -⟩ := RowsK.shape RH.out
  obtain ⟨N, hN⟩ : ∃ N, Hid (N = pl.length) := ⟨_, chid rfl⟩
  have hml : (pl.map htO).length = N := by rw [List.length_map, hN.out]
  rw [hml] at RH ⊢
  rw [← hN.out] at HK4 hlen ⊢
  clear b4 oh HK3 HY3 HHt hml
  clear z0 z1 z2 z3 z4 z5 z6 z7 z8 z9 z10 z11 zl
  have n0 : (c0 != c0) = false := by simp
  have n1 : (ce != ce) = false := by simp
  have n2 : ((N : Int) != (N : Int)) = false := by simp
  go_wp2_with fail
  go_loopw [10] (fun z wr => ∃ k : Nat, z = .int .i64 (k : Nat) ∧ k ≤ N ∧ Hid (Below w4.heap.size w4 wr)) (fun z _ => match z with | .int _ z => ((N : Int) - z).toNat | _ => 0)
  case atStart => exact ⟨0, rfl, by omega, chid (Below.refl _ _)⟩
  case round =>
    obtain ⟨k, rfl, hk, HBk⟩ := hrel
    by_cases hlt : k < N
    · have hlt' : (k : Int) < (N : Int) := by omega
      have hkl : k < pl.length := by rw [← hN.out]; exact hlt
      obtain ⟨kb, ko, kcap, hve, -, -, hkb, hkx⟩ := RowsK.open (RowsK.next HK4.out HBk.out) (by omega)
      cases hve
      obtain ⟨rb, ro, rcap, hve, -, -, hrb, hrx⟩ := RowsK.open (RowsK.next RH.out HBk.out) (by omega)
      cases hve
      have y0 := hrx k hlt 0 _ rfl
      rw [show ro + k * 1 + 0 = ro + k by omega] at y0
      have hm : (pl.map htO).getD k 0 = htO (pl.getD k none) := by simp [List.getD, hkl]
      rw [hm] at y0
      obtain ⟨kn, hv, tv, hkw, -⟩ := kw_at (pl.getD k none)
      have hh : htO (pl.getD k none) = hv := by
        have h1 := hkw.out
        cases hq : pl.getD k none with
        | none => rw [hq] at h1; simp [kwL] at h1; rw [← h1.2.1]; rfl
        | some s => rw [hq] at h1; simp [kwL] at h1; rw [← h1.2.1]; rfl
      have y1 := hkx k hlt 1 (.int .i64 hv) (by rw [hkw.out]; rfl)
      rw [hh] at y0
      have n3 : (hv != hv) = false := by simp
      clear hrx hkx hm hh
      go_wp2_with fail
      go_quiet (fail)
      go_wp2_with fail
      refine ⟨⟨k + 1, by go_num, by omega, chid (cdrewN HBk.out _)⟩, ?_⟩
      show ((N : Int) - ((k : Int) + 1)).toNat < ((N : Int) - (k : Int)).toNat
      omega
    · have hlt' : ¬ (k : Int) < (N : Int) := by omega
      go_wp2_with fail
      go_ret
      exact ⟨rfl, bel_to B4.out HBk.out⟩
end Go.Proofs.YthfnjlfhaibbeaaDoor

/- Package verify: the law VerifyDown walked. -/
import Derived.Test.YthfnjlfhaibbeaaDoorVeP
import Derived.Test.YthfnjlfhaibbeaaDoorVfA
import Derived.Test.YthfnjlfhaibbeaaDoorVfB
import Derived.Deep.Cut
import Derived.Deep.CutRange
import Derived.Deep.DeepCutAuto
namespace Go.Proofs.YthfnjlfhaibbeaaDoor
open Go.RowKit

/-- The heights of an accepted program, told for the law. -/
theorem down_all {g : PgP} {q : List (Option St)} {n : Nat} (h : looksF cfB g = (some q, n)) : q.length = g.C.length ∧ 1 ≤ g.C.length ∧ g.C.length ≤ 16384 ∧ g.h ≤ 4096 ∧ (q.map htO).getD 0 0 = 0 ∧ ∀ i, i < g.C.length → 0 ≤ (q.map htO).getD i 0 ∧ (q.map htO).getD i 0 ≤ g.h ∧
    (¬ ((g.C.getD i in0).1 = 29 ∨ (g.C.getD i in0).1 = 30 ∨ (g.C.getD i in0).1 = 31) → (waysF i (g.C.getD i in0).1 (g.C.getD i in0).2 ((q.map htO).getD i 0) 1).2 = true ∧ (waysF i (g.C.getD i in0).1 (g.C.getD i in0).2 ((q.map htO).getD i 0) 1).1 ≠ []) ∧
    ∀ y, y ∈ (waysF i (g.C.getD i in0).1 (g.C.getD i in0).2 ((q.map htO).getD i 0) 1).1 → (i : Int) < y.1 ∧ y.1 < (g.C.length : Int) ∧ (q.map htO).getD y.1.toNat 0 = y.2.1 := by
  obtain ⟨h1, h2, h3, h4⟩ := looks_down h
  have hh : g.h ≤ 4096 := by
    unfold looksF at h
    cases hb : headB cfB g with
    | false => rw [hb] at h; cases h
    | true => unfold headB at hb; simp at hb; omega
  have hl := looks_len h
  have hg : ∀ (j : Nat) (s : St), q[j]? = some (some s) → (q.map htO).getD j 0 = s.1 := fun j s hj => by
    unfold List.getD
    rw [List.getElem?_map, hj]
    rfl
  refine ⟨h1, hl.2.1, hl.2.2, hh, hg 0 _ h2, fun i hi => ?_⟩
  obtain ⟨s, b1, b2, b3⟩ := h4 i hi
  have hs := h3 i s b1
  rw [hg i s b1]
  refine ⟨hs.1, hs.2.1, fun hne => ?_, fun y hy => ?_⟩
  · have := ways_one b2 hne
    exact ⟨this.1, this.2.1⟩
  · by_cases he : (g.C.getD i in0).1 = 29 ∨ (g.C.getD i in0).1 = 30 ∨ (g.C.getD i in0).1 = 31
    · rw [ways_end he] at hy
      cases hy
    · obtain ⟨x, k1, k2, k3⟩ := (ways_one b2 he).2.2 y hy
      have k4 := b3 x k1
      rw [← k2, ← k3]
      exact ⟨k4.1, k4.2.1, hg _ _ k4.2.2⟩
set_option maxHeartbeats 4000000 in
set_option maxRecDepth 20000 in
theorem verifyDown_c (g : PgP) (u : PgV) (w : World) (h : PgRd w g u) (ho : PgOk g) (hF : FldAt w) (hT : TabAt w) :
    Calls Tryd.prog 6 #[pgV g u] w fun e w' => e = .returned (.bool true) ∧ Below w.heap.size w w' := by
  obtain ⟨a1, c1, a2, c2, a3, c3, a4, c4, rfl⟩ := h.shapeV
  obtain ⟨Y0, YB⟩ := one_box w 31 (pgL g (⟨.slice a1 g.K.length c1, .slice a2 g.wins.length c2, .slice a3 g.crons.length c3, .slice a4 g.C.length c4⟩ : PgV))
  have HA := chid (awake23_c _ (hF.later YB) (hT.next YB))
  have HHt := chid (fun W (hb : Below w.heap.size w W) => heights_c g _ W (h.next hb) ho (hF.later hb) (hT.next hb))
  have HCk := chid (fun W (hb : Below w.heap.size w W) => check_c g _ W (h.next hb) ho (hF.later hb) (hT.next hb))
  have HRd := chid (fun W (hb : Below w.heap.size w W) => (h.next hb).c)
  have HOk := chid ho
  have HY := chid Y0
  have HB := chid YB
  clear h ho hF hT Y0 YB
  go_enter Tryd.func6, Tryd.ntmps6
  go_wp2_with fail
  refine Calls.mono HA.out ?_
  rintro e w1 ⟨rfl, b1⟩
  have B1 := chid (bel_to HB.out b1)
  have HY1 := chid (HY.out.next b1)
  clear b1 HA HB HY
  have z0 := HY1.out.cell 0 _ rfl
  have z1 := HY1.out.cell 1 _ rfl
  have z2 := HY1.out.cell 2 _ rfl
  have z3 := HY1.out.cell 3 _ rfl
  have z4 := HY1.out.cell 4 _ rfl
  have z5 := HY1.out.cell 5 _ rfl
  have z6 := HY1.out.cell 6 _ rfl
  have z7 := HY1.out.cell 7 _ rfl
  have z8 := HY1.out.cell 8 _ rfl
  have z9 := HY1.out.cell 9 _ rfl
  have z10 := HY1.out.cell 10 _ rfl
  have z11 := HY1.out.cell 11 _ rfl
  have zl := HY1.out.lt
  have HH := chid (HHt.out w1 B1.out)
  unfold HeP at HH
  have HK : Hid (∀ W (hb : Below w.heap.size w W), Calls Tryd.prog 13 #[pgV g (⟨.slice a1 g.K.length c1, .slice a2 g.wins.length c2, .slice a3 g.crons.length c3, .slice a4 g.C.length c4⟩ : PgV)] W fun e w' => e = .returned (.tuple #[.int .i64 (ckF g).1, .int .i64 (ckF g).2]) ∧ Below W.heap.size W w') := chid HCk.out
  unfold ckF at HK
  clear HHt HCk
  cases hl : looksF cfB g with
  | mk q n =>
    rw [hl] at HH HK
    cases q with
    | none =>
      simp only at HH HK
      clear hl
      go_wp2_with fail
      refine Calls.mono HH.out ?_
      rintro e w2 ⟨b2, rfl⟩
      have B2 := chid (bel_to B1.out b2)
      have HY2 := chid (HY1.out.next b2)
      clear b2 HY1 HH
      clear z0 z1 z2 z3 z4 z5 z6 z7 z8 z9 z10 z11 zl
      have z0 := HY2.out.cell 0 _ rfl
      have z1 := HY2.out.cell 1 _ rfl
      have z2 := HY2.out.cell 2 _ rfl
      have z3 := HY2.out.cell 3 _ rfl
      have z4 := HY2.out.cell 4 _ rfl
      have z5 := HY2.out.cell 5 _ rfl
      have z6 := HY2.out.cell 6 _ rfl
      have z7 := HY2.out.cell 7 _ rfl
      have z8 := HY2.out.cell 8 _ rfl
      have z9 := HY2.out.cell 9 _ rfl
      have z10 := HY2.out.cell 10 _ rfl
      have z11 := HY2.out.cell 11 _ rfl
      have zl := HY2.out.lt
      go_wp2_with fail
      refine Calls.mono (HK.out w2 B2.out) ?_
      rintro e w3 ⟨rfl, b3⟩
      have B3 := chid (bel_to B2.out b3)
      clear b3
      go_wp2_with fail
      go_ret
      exact ⟨rfl, B3.out⟩
    | some q =>
      have HD := chid (down_all hl)
      simp only at HH HK
      clear hl HK
      go_wp2_with fail
      refine Calls.mono HH.out ?_
      rintro e w2 ⟨b2, v, rfl, hv⟩
      have B2 := chid (bel_to B1.out b2)
      have HY2 := chid (HY1.out.next b2)
      have HV := chid (hs_rows hv)
      obtain ⟨hs, hhs⟩ : ∃ x, Hid (x = q.map htO) := ⟨_, chid rfl⟩
      rw [← hhs.out] at HV HD
      have hlen : Hid (hs.length = g.C.length) := chid (by rw [hhs.out, List.length_map]; exact HD.out.1)
      have hN1 := HD.out.2.1
      have hN2 := HD.out.2.2.1
      obtain ⟨N, hN⟩ : ∃ N, Hid (N = g.C.length) := ⟨_, chid rfl⟩
      obtain ⟨vb, vo, vcap, rfl, -, -, hvl, hvx⟩ := RowsK.open HV.out (by rw [hlen.out]; omega)
      have x0 : w2.cell? ⟨vb, vo, none⟩ = some (.int .i64 0) := by
        have h1 := hvx 0 (by rw [hlen.out]; omega) 0 _ rfl
        rw [HD.out.2.2.2.2.1] at h1
        exact h1
      rw [hlen.out, ← hN.out] at HV
      rw [← hN.out] at hN1 hN2
      rw [hlen.out, ← hN.out]
      clear b2 hv HY1 HH hvx hhs
      clear z0 z1 z2 z3 z4 z5 z6 z7 z8 z9 z10 z11 zl
      have z0 := HY2.out.cell 0 _ rfl
      have z1 := HY2.out.cell 1 _ rfl
      have z2 := HY2.out.cell 2 _ rfl
      have z3 := HY2.out.cell 3 _ rfl
      have z4 := HY2.out.cell 4 _ rfl
      have z5 := HY2.out.cell 5 _ rfl
      have z6 := HY2.out.cell 6 _ rfl
      have z7 := HY2.out.cell 7 _ rfl
      have z8 := HY2.out.cell 8 _ rfl
      have z9 := HY2.out.cell 9 _ rfl
      have z10 := HY2.out.cell 10 _ rfl
      have z11 := HY2.out.cell 11 _ rfl
      have zl := HY2.out.lt
      rw [← hN.out] at z11
      have hne : ¬ (N : Int) = 0 := by omega
      have hneb : ((N : Int) == 0) = false := by simp; omega
      go_wp2_with fail
      clear z0 z1 z2 z3 z4 z5 z6 z7 z8 z9 z10 z11 zl
      clear x0 hvl hneb hne
      have HD2 := chid HD.out.2.2.2.2.2
      have hgh := HD.out.2.2.2.1
      clear HD hlen
      go_loopw [8] (fun z wr => ∃ i : Nat, z = .int .i64 (i : Nat) ∧ i ≤ N ∧ Hid (Below w2.heap.size w2 wr)) (fun z _ => match z with | .int _ z => ((N : Int) - z).toNat | _ => 0)
      case atStart => exact ⟨0, rfl, by omega, chid (Below.refl _ _)⟩
      case round =>
        obtain ⟨i, rfl, hi, HBr⟩ := hrel
        by_cases hlt : i < N
        · have hlt' : (i : Int) < (N : Int) := by omega
          have HDi := chid (HD2.out i (by rw [← hN.out]; exact hlt))
          obtain ⟨vb', vo', vcap', hve, -, -, hvl, hvx⟩ := RowsK.open (RowsK.next HV.out HBr.out) (by omega)
          cases hve
          have y0 := hvx i hlt 0 _ rfl
          rw [show vo + i * 1 + 0 = vo + i by omega] at y0
          have hC := HRd.out wr (bel_to B2.out HBr.out)
          obtain ⟨cb, coff, ccap, hv, hc1, hc2, hcl, hcx⟩ := RowsK.open hC (show 0 < g.C.length by rw [← hN.out]; omega)
          cases hv
          have y1 := hcx i (by rw [← hN.out]; exact hlt) 0 _ rfl
          have y2 := hcx i (by rw [← hN.out]; exact hlt) 1 _ rfl
          rw [Nat.add_zero] at y1
          have hox := HOk.out.C (g.C.getD i in0) (by
            have hkl : i < g.C.length := by rw [← hN.out]; exact hlt
            rw [show g.C.getD i in0 = g.C[i] by simp [List.getD, hkl]]
            exact List.getElem_mem hkl)
          obtain ⟨op, a, hxe⟩ : ∃ op a, Hid (g.C.getD i in0 = (op, a)) := ⟨_, _, chid rfl⟩
          rw [hxe.out] at y1 y2 hox HDi
          generalize hs.getD i 0 = hv at *
          simp only at y1 y2 hox HDi
          have HYr := HY2.out.next HBr.out
          have z10 := HYr.cell 10 _ rfl
          have z11 := HYr.cell 11 _ rfl
          have zl := HYr.lt
          rw [← hN.out] at z11
          have hv0 := HDi.out.1
          have hv1 := HDi.out.2.1
          have hv2 : ¬ hv < 0 := by omega
          have hv3 : ¬ g.h < hv := by omega
          have HW := chid (fun W => rWays_c i (by omega) op a hv 1 hv0 (by omega) (by omega) (by omega) W)
          clear hvx hcx hC HYr
          go_wp2_with fail
          go_quiet (fail)
          go_wp2_with fail
          go_upto_region 15 with fail
          go_cut [9, 10] (fun s9 s10 wd => ∃ (la : Option Addr) (lc : Nat), s9 = .slice la (waysF i op a hv 1).1.length lc ∧ s10 = .bool (waysF i op a hv 1).2 ∧ Hid (Below wr.heap.size wr wd) ∧ Hid (WysAt wd (.slice la (waysF i op a hv 1).1.length lc) (waysF i op a hv 1).1))
          case first =>
            first | go_region_with (first | (go_at_call 17; refine Calls.mono (HW.out _) ?_; rintro e w5 ⟨b5, v5, rfl, h5⟩; obtain ⟨la, lc, rfl, -, -⟩ := RowsK.shape h5; have HB5 := chid b5; have HL5 := chid h5; clear b5 h5)) | fail "x"
            all_goals go_wp2_with fail
            all_goals go_meet
            all_goals first
              | exact ⟨la, lc, rfl, rfl, chid (bel_to ((cdrewN (Below.refl _ _) _).drew) HB5.out), HL5⟩
              | exact ⟨la, lc, rfl, rfl, chid (bel_to ((Below.refl _ _).drew) HB5.out), HL5⟩
          case rest =>
            obtain ⟨la, lc, rfl, rfl, HBc, HLc⟩ := hcut
            obtain ⟨lw, hlw⟩ : ∃ x, Hid (x = (waysF i op a hv 1).1) := ⟨_, chid rfl⟩
            obtain ⟨okb, hokb⟩ : ∃ x, Hid (x = (waysF i op a hv 1).2) := ⟨_, chid rfl⟩
            obtain ⟨M, hM⟩ : ∃ M, Hid (M = lw.length) := ⟨_, chid rfl⟩
            rw [← hlw.out] at HLc ⊢
            rw [← hokb.out]
            rw [← hM.out] at HLc ⊢
            have HDi := chid (show _ ∧ _ ∧ _ ∧ _ from by have h0 := HDi.out; rw [← hlw.out, ← hokb.out] at h0; exact h0)
            have HBd := chid (bel_to HBr.out HBc.out)
            have HYc := HY2.out.next HBd.out
            have hCc := HRd.out wc (bel_to B2.out HBd.out)
            obtain ⟨cb', coff', ccap', hv', -, -, hcl', hcx'⟩ := RowsK.open hCc (show 0 < g.C.length by rw [← hN.out]; omega)
            cases hv'
            have y1 := hcx' i (by rw [← hN.out]; exact hlt) 0 _ rfl
            rw [Nat.add_zero] at y1
            rw [hxe.out] at y1
            simp only at y1
            have z11 := HYc.cell 11 _ rfl
            have zl := HYc.lt
            rw [← hN.out] at z11
            clear hcx' hCc HYc HW
            go_upto_region 16 with fail
            go_cut [11] (fun s11 wd => s11 = .bool (decide (op = 29 ∨ op = 30 ∨ op = 31)) ∧ wc = wd)
            case first =>
              by_cases e1 : op = 29
              · subst e1
                go_wp2_with fail
                all_goals go_meet
                all_goals exact ⟨by simp, rfl⟩
              by_cases e2 : op = 30
              · subst e2
                go_wp2_with fail
                all_goals go_meet
                all_goals exact ⟨by simp, rfl⟩
              by_cases e3 : op = 31
              · subst e3
                go_wp2_with fail
                all_goals go_meet
                all_goals exact ⟨by simp, rfl⟩
              go_wp2_with fail
              all_goals go_meet
              all_goals exact ⟨by simp [e1, e2, e3], rfl⟩
            case rest =>
              obtain ⟨rfl, rfl⟩ := hcut
              obtain ⟨E, hE⟩ : ∃ E : Bool, Hid (E = decide (op = 29 ∨ op = 30 ∨ op = 31)) := ⟨_, chid rfl⟩
              rw [← hE.out]
              have hEo : E = false → okb = true ∧ ¬ (M : Int) = 0 := fun hf => by
                have he : ¬ (op = 29 ∨ op = 30 ∨ op = 31) := by
                  have := hE.out
                  rw [hf] at this
                  simpa using this.symm
                have h0 := HDi.out.2.2.1 he
                refine ⟨h0.1, fun hm => h0.2 ?_⟩
                have hm2 : lw.length = 0 := by have := hM.out; omega
                exact List.length_eq_zero_iff.1 hm2
              have HEo := chid hEo
              clear hEo
              go_upto_region 17 with fail
              go_cut [120] (fun s17 wd => s17 = .bool false ∧ wc = wd)
              case first =>
                cases E with
                | true =>
                  go_wp2_with fail
                  all_goals go_meet
                  all_goals exact ⟨rfl, rfl⟩
                | false =>
                  obtain ⟨ho1, hm1⟩ := HEo.out rfl
                  have hmb : ((M : Int) == 0) = false := by simp only [beq_eq_false_iff_ne, ne_eq]; omega
                  subst ho1
                  go_wp2_with fail
                  all_goals go_meet
                  all_goals exact ⟨rfl, rfl⟩
              case rest =>
                obtain ⟨rfl, rfl⟩ := hcut
                have HWy : Hid (∀ k, k < M → (i : Int) < (lw.getD k wy0).1 ∧ (lw.getD k wy0).1 < (N : Int) ∧ hs.getD (lw.getD k wy0).1.toNat 0 = (lw.getD k wy0).2.1) := chid (fun k hk => by
                  have hk2 : k < lw.length := by rw [← hM.out]; exact hk
                  have hg : lw.getD k wy0 = lw[k] := by simp [List.getD, hk2]
                  rw [hg, hN.out]
                  exact HDi.out.2.2.2 _ (List.getElem_mem hk2))
                clear HDi y1 z11 zl HEo
                go_wp2_with fail
                go_loopw [12] (fun z wr => ∃ k : Nat, z = .int .i64 (k : Nat) ∧ k ≤ M ∧ Hid (Below wc.heap.size wc wr)) (fun z _ => match z with | .int _ z => ((M : Int) - z).toNat | _ => 0)
                case atStart => exact ⟨0, rfl, by omega, chid (Below.refl _ _)⟩
                case round =>
                  obtain ⟨k, rfl, hk, HBk⟩ := hrel
                  by_cases hkt : k < M
                  · have hkt' : (k : Int) < (M : Int) := by omega
                    obtain ⟨w1', w2', w3'⟩ := HWy.out k hkt
                    obtain ⟨lb, lo, lcap, hve2, -, -, hll, hlx⟩ := RowsK.open (RowsK.next HLc.out HBk.out) (by rw [← hM.out]; omega)
                    rw [← hM.out] at hve2
                    cases hve2
                    have p1 := hlx k (by rw [← hM.out]; exact hkt) 0 _ rfl
                    have p2 := hlx k (by rw [← hM.out]; exact hkt) 1 _ rfl
                    rw [Nat.add_zero] at p1
                    have hMl : (M : Int) ≤ 9223372036854775807 := by
                      obtain ⟨_, _, -, h1, h2⟩ := RowsK.shape HLc.out
                      have := hM.out
                      omega
                    have HVk := RowsK.next HV.out (bel_to HBd.out HBk.out)
                    obtain ⟨vb', vo', vcap', hve, -, -, hvl2, hvx2⟩ := RowsK.open HVk (by omega)
                    cases hve
                    generalize lw.getD k wy0 = y at *
                    obtain ⟨yt, yh, yr⟩ := y
                    simp only at w1' w2' w3' p1 p2
                    obtain ⟨m, rfl⟩ : ∃ m : Nat, yt = (m : Int) := ⟨yt.toNat, by omega⟩
                    rw [show ((m : Int)).toNat = m by omega] at w3'
                    have p3 := hvx2 m (by omega) 0 _ rfl
                    rw [show vo + m * 1 + 0 = vo + m by omega, w3'] at p3
                    have hm1 : ¬ (m : Int) ≤ (i : Int) := by omega
                    have hm2 : ¬ (N : Int) ≤ (m : Int) := by omega
                    have hyy : (yh != yh) = false := by simp
                    have hm3 : ¬ m ≤ i := by omega
                    have hm4 : ¬ N ≤ m := by omega
                    have hm5 : decide ((m : Int) ≤ (i : Int)) = false := by simp; omega
                    have hm6 : decide ((N : Int) ≤ (m : Int)) = false := by simp; omega
                    clear hlx hvx2 HVk w3'
                    go_wp2_with fail
                    go_quiet (fail)
                    go_wp2_with fail
                    refine ⟨⟨k + 1, by go_num, by omega, chid (cdrewN HBk.out _)⟩, ?_⟩
                    show ((M : Int) - ((k : Int) + 1)).toNat < ((M : Int) - (k : Int)).toNat
                    omega
                  · have hkt' : ¬ (k : Int) < (M : Int) := by omega
                    go_wp2_with fail
                    refine ⟨⟨i + 1, by go_num, by omega, chid (bel_to HBd.out HBk.out)⟩, ?_⟩
                    show ((N : Int) - ((i : Int) + 1)).toNat < ((N : Int) - (i : Int)).toNat
                    omega
        · have hlt' : ¬ (i : Int) < (N : Int) := by omega
          go_wp2_with fail
          go_ret
          exact ⟨rfl, bel_to B2.out HBr.out⟩
end Go.Proofs.YthfnjlfhaibbeaaDoor

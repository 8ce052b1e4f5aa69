/- The document's Action. -/
import Derived.Test.YtdikeicnefgjcaaDoorTrT
namespace Go.Proofs.YtdikeicnefgjcaaDoor
open Go.RowKit

theorem own33 {k : Int} {s : ByteArray} {n m : Int} (h : 33 ≤ k) : ownB k s n m = bareB s n m := by
  unfold ownB
  rw [if_neg (by omega), if_neg (by omega), if_neg (by omega), if_neg (by omega), if_neg (by omega)]
theorem do_own {k : Int} {s : ByteArray} {n m : Int} {c : Nat} (h : doB k s n m c = true) : 33 ≤ k ∧ bareB s n m = true := by
  unfold doB at h
  split at h
  · rw [plain_iff] at h; exact ⟨by omega, h.2.2⟩
  · split at h
    · rw [plain_iff] at h; exact ⟨by omega, h.2.2⟩
    · rw [Bool.and_eq_true, plain_iff] at h; exact ⟨by omega, h.2.2.2⟩
theorem act_noOwn {t : Tm} (h : ownB t.kind t.text t.n t.m = false) : actionB t = false := by
  rw [actionB_eq]
  cases hd : doB t.kind t.text t.n t.m t.parts.length with
  | false => rfl
  | true =>
    obtain ⟨h1, h2⟩ := do_own hd
    rw [own33 h1, h2] at h
    cases h
theorem act_33 {t : Tm} (hk : t.kind = 33) (h : ownB t.kind t.text t.n t.m = true) : actionB t = decide (t.parts.length = 0) := by
  rw [own33 (by omega)] at h
  rw [actionB_eq]
  by_cases hl : t.parts.length = 0
  · rw [decide_eq_true hl, doB, if_pos hl, plain_iff.2 ⟨by omega, by omega, h⟩, hl]; rfl
  · rw [decide_eq_false hl, doB, if_neg hl]
    have e1 : plainB t.kind t.text t.n t.m 34 35 = false := by rw [Bool.eq_false_iff]; intro e; rw [plain_iff] at e; omega
    have e2 : plainB t.kind t.text t.n t.m 36 36 = false := by rw [Bool.eq_false_iff]; intro e; rw [plain_iff] at e; omega
    rw [e1, e2]; simp
theorem act_34 {t : Tm} (hk : t.kind = 34 ∨ t.kind = 35) (h : ownB t.kind t.text t.n t.m = true) : actionB t = (decide (t.parts.length = 1) && t.parts.all formedB) := by
  rw [own33 (by omega)] at h
  by_cases hl : t.parts.length = 1
  · match hp : t.parts, hl with
    | [x], _ =>
      rw [action_1 hp, plain_iff.2 ⟨by omega, by omega, h⟩]; simp
  · rw [actionB_eq, decide_eq_false hl, doB, if_neg hl]
    have e1 : plainB t.kind t.text t.n t.m 33 33 = false := by rw [Bool.eq_false_iff]; intro e; rw [plain_iff] at e; omega
    have e2 : plainB t.kind t.text t.n t.m 36 36 = false := by rw [Bool.eq_false_iff]; intro e; rw [plain_iff] at e; omega
    rw [e1, e2]; simp
theorem act_36 {t : Tm} (hk : t.kind = 36) (h : ownB t.kind t.text t.n t.m = true) : actionB t = (decide (2 ≤ t.parts.length) && (decide (t.parts.length % 2 = 0) && (List.range t.parts.length).all (partB t.parts))) := by
  rw [own33 (by omega)] at h
  rw [actionB_eq, doB]
  by_cases h2 : 2 ≤ t.parts.length
  · rw [decide_eq_true h2, if_neg (by omega), if_neg (by omega), plain_iff.2 ⟨by omega, by omega, h⟩, Bool.and_true, Bool.true_and]
  · rw [decide_eq_false h2]
    have e1 : plainB t.kind t.text t.n t.m 33 33 = false := by rw [Bool.eq_false_iff]; intro e; rw [plain_iff] at e; omega
    have e2 : plainB t.kind t.text t.n t.m 34 35 = false := by rw [Bool.eq_false_iff]; intro e; rw [plain_iff] at e; omega
    by_cases h0 : t.parts.length = 0
    · rw [if_pos h0, e1]; rfl
    · rw [if_neg h0, if_pos (by omega), e2]; rfl
theorem act_none {t : Tm} (h3 : t.kind ≠ 33) (h4 : t.kind ≠ 34) (h5 : t.kind ≠ 35) (h6 : t.kind ≠ 36) : actionB t = false := by
  rw [actionB_eq, doB]
  have e0 : plainB t.kind t.text t.n t.m 33 33 = false := by rw [Bool.eq_false_iff]; intro e; rw [plain_iff] at e; omega
  have e1 : plainB t.kind t.text t.n t.m 34 35 = false := by rw [Bool.eq_false_iff]; intro e; rw [plain_iff] at e; omega
  have e2 : plainB t.kind t.text t.n t.m 36 36 = false := by rw [Bool.eq_false_iff]; intro e; rw [plain_iff] at e; omega
  rw [e0, e1, e2]; simp
def RAct (z : Nat) (t : Tm) : Prop := ∀ (v : Value) (w : World), Sits z w t v → Calls Tryd.prog 14 #[tmV t v] w fun e w' => e = .returned (.bool (actionB t)) ∧ Below w.heap.size w w'
theorem litOut_ok (r : Option (Tm × Int)) : ∃ (n : Int) (s : ByteArray), litOut r = .tuple #[.int .i64 n, .string s, .bool r.isSome] := by
  cases r with
  | none => exact ⟨_, _, rfl⟩
  | some p => exact ⟨_, _, rfl⟩
set_option maxRecDepth 20000 in
set_option maxHeartbeats 4000000 in
theorem rAct_step {z : Nat} (hz : z ≤ 1048576) (t : Tm) (ih : ∀ x, x ∈ t.parts → RAct z x) : RAct z t := by
  intro v w hs
  have HP := hid2 hs.parts
  have HI := hid2 ih
  obtain ⟨ad, cap, rfl, hlc, hc⟩ := hs.parts.shape
  have HO := hid2 (fun wx => own_c t (.slice ad t.parts.length cap) ⟨_, _, _, rfl⟩ (Nat.le_trans hs.fit.s hz) wx)
  obtain ⟨r, hr⟩ : ∃ r : Bool, Hid (r = actionB t) := ⟨_, rfl⟩
  rw [← hr.out]
  obtain ⟨N, hN⟩ : ∃ N, Hid (N = t.parts.length) := ⟨_, rfl⟩
  rw [← hN.out] at hlc HP HO ⊢
  obtain ⟨q, hq⟩ : ∃ q : Bool, Hid (q = ownB t.kind t.text t.n t.m) := ⟨_, rfl⟩
  rw [← hq.out] at HO
  have HA0 : Hid (Below w.heap.size w (w.alloc (.cells (tmL t (.slice ad N cap)).toArray 24))) := (Below.refl _ _).alloc (Nat.le_refl _) _
  have BX : Hid (Box (w.alloc (.cells (tmL t (.slice ad N cap)).toArray 24)) w.heap.size (tmL t (.slice ad N cap))) := Box.new _ _ _
  clear hs ih
  go_enter Tryd.func14, Tryd.ntmps14
  go_wp2_with fail
  refine Calls.mono (HO.out _) ?_
  rintro e w1 ⟨rfl, b1⟩
  have B1 : Hid (Below (w.heap.size + 1) (w.alloc (.cells (tmL t (.slice ad N cap)).toArray 24)) w1) := b1.mono (by simp)
  have BW : Hid (Below w.heap.size w w1) := HA0.out.trans (B1.out.mono (by omega))
  have Y := BX.out.later B1.out (by omega)
  have y0 := Y.cell 0 _ rfl
  have y5 := Y.cell 5 _ rfl
  have ly := Y.lt
  clear b1 HO Y
  cases q
  · have rf : r = false := by rw [hr.out, act_noOwn hq.out.symm]
    subst rf
    go_wp2_with fail
    go_ret
    exact ⟨rfl, BW.out⟩
  simp only []
  have HQ := hid2 hq.out.symm
  clear hq
  by_cases k33 : t.kind = 33
  · have d : (t.kind == 33) = true := by rw [k33]; rfl
    have HR : Hid (r = decide ((N : Int) = 0)) := by show _ = _; rw [hr.out, act_33 k33 HQ.out]; exact decide_eq_decide.2 (by have := hN.out; omega)
    clear k33 hr
    go_wp2_with fail
    go_ret
    exact ⟨ret_bool (by rw [HR.out, Bool.eq_iff_iff]; simp), BW.out⟩
  have d33 : (t.kind == 33) = false := beq_eq_false_iff_ne.2 k33
  by_cases k34 : t.kind = 34 ∨ t.kind = 35
  · have HR : Hid (r = (decide (t.parts.length = 1) && t.parts.all formedB)) := by show _ = _; rw [hr.out, act_34 k34 HQ.out]
    clear hr
    by_cases hl : N = 1
    · have hl1 : t.parts.length = 1 := by rw [← hN.out]; exact hl
      obtain ⟨x, hp⟩ : ∃ x, t.parts = [x] := by
        match hp : t.parts, hl1 with
        | [x], _ => exact ⟨x, rfl⟩
      have HR2 : Hid (r = formedB x) := by show _ = _; rw [HR.out, hp]; simp
      subst hl
      obtain ⟨b, off, cap', hv, -, -, hbl, hxx⟩ := HP.out.open (by omega)
      simp only [Value.slice.injEq] at hv
      obtain ⟨rfl, -, rfl⟩ := hv
      obtain ⟨u, h6, hu⟩ := hxx 0 (by omega)
      have e0 : t.parts[0]'(by omega) = x := by simp [hp]
      rw [e0, Nat.zero_mul, Nat.add_zero] at h6
      rw [e0] at hu
      obtain ⟨c0, c1, c2, c3, c4, c5⟩ := h6.keep (w' := w1) (fun q => BW.out.cell (p := ⟨b, q, none⟩) hbl)
      have hbl1 : b < w1.heap.size := Nat.lt_of_lt_of_le hbl BW.out.size
      have HF := hid2 (rForm_all hz x u w1 (hu.next BW.out))
      rw [← HR2.out] at HF
      clear HR HR2 h6 hu hxx e0 hp hl1
      rcases k34 with k | k
      all_goals
        rw [k] at y0
        have d34 : (t.kind == 34) = decide (t.kind = 34) := by rw [k]; rfl
        have d35 : (t.kind == 35) = decide (t.kind = 35) := by rw [k]; rfl
        clear k33 k
        go_wp2_with fail
        refine Calls.mono HF.out ?_
        rintro e w2 ⟨rfl, b2⟩
        have B2 := hid2 (below_on BW.out b2 BW.out.size)
        clear b2
        go_wp2_with fail
        go_ret
        exact ⟨rfl, B2.out⟩
    · have rf : r = false := by rw [HR.out, decide_eq_false (by have := hN.out; omega)]; rfl
      subst rf
      have dN : ((N : Int) == 1) = false := beq_eq_false_iff_ne.2 (by omega)
      clear HR HP HI
      rcases k34 with k | k
      all_goals
        rw [k] at y0
        clear k33
        go_wp2_with fail
        go_ret
        exact ⟨rfl, BW.out⟩
  have d34 : (t.kind == 34) = false := beq_eq_false_iff_ne.2 (by omega)
  have d35 : (t.kind == 35) = false := beq_eq_false_iff_ne.2 (by omega)
  by_cases k36 : t.kind = 36
  · have d36 : (t.kind == 36) = true := by rw [k36]; rfl
    have HR : Hid (r = (decide (2 ≤ N) && (decide (N % 2 = 0) && (List.range N).all (partB t.parts)))) := by show _ = _; rw [hr.out, act_36 k36 HQ.out, hN.out]
    clear hr k33 k34
    by_cases h2 : N < 2
    · have h2' : (N : Int) < 2 := by omega
      have rf : r = false := by rw [HR.out, decide_eq_false (by omega)]; rfl
      subst rf
      clear HR HP HI
      go_wp2_with fail
      go_ret
      exact ⟨rfl, BW.out⟩
    have h2' : ¬ (N : Int) < 2 := by omega
    by_cases hev : N % 2 = 1
    · have ho : ((N : Int) % 2 == 1) = true := beq_iff_eq.2 (by omega)
      have rf : r = false := by rw [HR.out, decide_eq_false (show ¬ N % 2 = 0 by omega)]; simp
      subst rf
      clear HR HP HI
      go_wp2_with fail
      go_ret
      exact ⟨rfl, BW.out⟩
    have ho : ((N : Int) % 2 == 1) = false := beq_eq_false_iff_ne.2 (by omega)
    have HR2 : Hid (r = (List.range N).all (partB t.parts)) := by show _ = _; rw [HR.out, decide_eq_true (show 2 ≤ N by omega), decide_eq_true (show N % 2 = 0 by omega)]; rfl
    obtain ⟨b, off, cap', hv, -, -, hbl, hxx⟩ := HP.out.open (by have := hN.out; omega)
    simp only [Value.slice.injEq] at hv
    obtain ⟨rfl, -, rfl⟩ := hv
    have HX := hid2 hxx
    have H2 := hid2 h2
    have HEV := hid2 hev
    clear HR hxx HP h2 hev
    have hl0 : 0 < t.parts.length := by rw [← hN.out]; have := H2.out; omega
    obtain ⟨u, h6, hu⟩ := HX.out 0 hl0
    rw [Nat.zero_mul, Nat.add_zero] at h6
    obtain ⟨c0, c1, c2, c3, c4, c5⟩ := h6.keep (w' := w1) (fun q => BW.out.cell (p := ⟨b, q, none⟩) hbl)
    have hbl1 : b < w1.heap.size := Nat.lt_of_lt_of_le hbl BW.out.size
    have HF := hid2 (rForm_all hz t.parts[0] u w1 (hu.next BW.out))
    have P0 : Hid (partB t.parts 0 = formedB t.parts[0]) := by show _ = _; unfold partB; rw [List.getElem?_eq_getElem hl0]; rfl
    clear h6 hu
    generalize t.parts[0] = x0 at *
    clear hl0
    go_wp2_with fail
    refine Calls.mono HF.out ?_
    rintro e w2 ⟨rfl, b2⟩
    have B2 := hid2 (B1.out.trans (b2.mono (by have := B1.out.size; simp at this; omega)))
    have B2W := hid2 (below_on BW.out b2 BW.out.size)
    clear b2 HF c0 c1 c2 c3 c4 c5 hbl1 y0 y5 ly
    cases hf : formedB x0 with
    | false =>
      have rf : r = false := by rw [HR2.out]; exact all_false (j := 0) (by have := H2.out; omega) (by rw [P0.out, hf])
      subst rf
      clear hf P0 HR2
      go_wp2_with fail
      go_ret
      exact ⟨rfl, B2W.out⟩
    | true =>
      have P1 : Hid ((List.range 1).all (partB t.parts) = true) := by show _ = _; rw [show List.range 1 = [0] from rfl]; simp [P0.out, hf]
      clear hf P0
      simp only []
      go_wp2_with fail
      go_loopw [4] (fun i wr => ∃ j : Nat, i = .int .i64 (j : Nat) ∧ 1 ≤ j ∧ j ≤ N ∧ Hid ((List.range j).all (partB t.parts) = true) ∧ Hid (Below (w.heap.size + 1) (w.alloc (.cells (tmL t (.slice (some ⟨b, off, none⟩) N cap)).toArray 24)) wr)) (fun i _ => match i with | .int _ p => ((N : Int) - p).toNat | _ => 0)
      case atStart => exact ⟨1, rfl, by omega, by have := H2.out; omega, P1, B2⟩
      case round =>
        obtain ⟨j, rfl, hj1, hj, HK, HB⟩ := hrel
        have HBw : Hid (Below w.heap.size w wr) := HA0.out.trans (HB.out.mono (by omega))
        have X := BX.out.later HB.out (by omega)
        have k5 := X.cell 5 _ rfl
        have lw := X.lt
        clear P1 X
        by_cases hlt : j < N
        · have hlt' : (j : Int) < (N : Int) := by omega
          have hl1 : j < t.parts.length := by rw [← hN.out]; exact hlt
          obtain ⟨u, h6, hu⟩ := HX.out j hl1
          obtain ⟨c0, c1, c2, c3, c4, c5⟩ := h6.keep (w' := wr) (fun q => HBw.out.cell (p := ⟨b, q, none⟩) hbl)
          have lbr : b < wr.heap.size := Nat.lt_of_lt_of_le hbl HBw.out.size
          have HCA := hid2 (HI.out _ (List.getElem_mem hl1) u wr (hu.next HBw.out))
          have HCL := hid2 (rLiteral_c hz t.parts[j] u wr (hu.next HBw.out))
          have PJ : Hid (partB t.parts j = if j % 2 = 1 ∧ j + 1 < N then (litR t.parts[j]).isSome else actionB t.parts[j]) := by
            show _ = _
            unfold partB
            rw [List.getElem?_eq_getElem hl1, ← hN.out]
            simp only [if_neg (show ¬ j = 0 by omega)]
            rw [litR_some]
          clear h6 hu
          generalize t.parts[j] = x at *
          clear hl1
          by_cases hc : j % 2 = 1 ∧ j + 1 < N
          · have e1 : ((j : Int) % 2 == 1) = true := beq_iff_eq.2 (by omega)
            have e2 : (j : Int) < (N : Int) - 1 := by omega
            have PJ2 : Hid (partB t.parts j = (litR x).isSome) := by show _ = _; rw [PJ.out, if_pos hc]
            obtain ⟨n', s', he⟩ := litOut_ok (litR x)
            rw [he] at HCL
            generalize (litR x).isSome = ok at *
            clear PJ hc he HCA
            go_wp2_with fail
            refine Calls.mono HCL.out ?_
            rintro e w3 ⟨rfl, b3⟩
            have B3 := hid2 (HB.out.trans (b3.mono (by have := HB.out.size; simp at this; omega)))
            have B3W := hid2 (below_on HBw.out b3 HBw.out.size)
            clear b3 HCL
            cases ok
            · have rf : r = false := by rw [HR2.out]; exact all_false hlt PJ2.out
              subst rf
              go_wp2_with fail
              go_ret
              exact ⟨rfl, B3W.out⟩
            · have HK2 := hid2 (all_step HK.out PJ2.out)
              go_wp2_with fail
              go_roundw
              case rel => exact ⟨j + 1, by go_num, by omega, by omega, HK2, B3⟩
              case measure => simp; omega
          · have PJ2 : Hid (partB t.parts j = actionB x) := by show _ = _; rw [PJ.out, if_neg hc]
            clear PJ HCL
            by_cases ho1 : j % 2 = 1
            all_goals
              first
              | (have e1 : ((j : Int) % 2 == 1) = true := beq_iff_eq.2 (by omega)
                 have e2 : ¬ (j : Int) < (N : Int) - 1 := by omega
                 clear hc ho1)
              | (have e1 : ((j : Int) % 2 == 1) = false := beq_eq_false_iff_ne.2 (by omega)
                 clear hc ho1)
              go_wp2_with fail
              refine Calls.mono HCA.out ?_
              rintro e w3 ⟨rfl, b3⟩
              have B3 := hid2 (HB.out.trans (b3.mono (by have := HB.out.size; simp at this; omega)))
              have B3W := hid2 (below_on HBw.out b3 HBw.out.size)
              clear b3 HCA
              cases hact : actionB x with
              | false =>
                have rf : r = false := by rw [HR2.out]; exact all_false hlt (by rw [PJ2.out, hact])
                subst rf
                clear hact
                go_wp2_with fail
                go_ret
                exact ⟨rfl, B3W.out⟩
              | true =>
                have HK2 := hid2 (all_step HK.out (by rw [PJ2.out, hact]))
                clear hact
                go_wp2_with fail
                go_roundw
                case rel => exact ⟨j + 1, by go_num, by omega, by omega, HK2, B3⟩
                case measure => simp; omega
        · have hlt' : ¬ (j : Int) < (N : Int) := by omega
          have hjN : j = N := by omega
          have rt : r = true := by rw [HR2.out, ← hjN, HK.out]
          subst rt
          clear HK HR2
          go_wp2_with fail
          go_ret
          exact ⟨rfl, HBw.out⟩
  · have d36 : (t.kind == 36) = false := beq_eq_false_iff_ne.2 k36
    have rf : r = false := by rw [hr.out, act_none k33 (by omega) (by omega) k36]
    subst rf
    clear hr
    go_wp2_with fail
    go_ret
    exact ⟨rfl, BW.out⟩
theorem rAct_all {z : Nat} (hz : z ≤ 1048576) (t : Tm) : RAct z t := by
  induction t using Tm.ind with
  | h t ih => exact rAct_step hz t ih
end Go.Proofs.YtdikeicnefgjcaaDoor

/- Package verify: the document's Looks, Check. -/
import Derived.Test.YthfnjlfhaibbeaaDoorVgA
import Derived.Test.YthfnjlfhaibbeaaDoorVgB
import Derived.Test.YthfnjlfhaibbeaaDoorVeP
import Derived.Deep.Cut
import Derived.Deep.CutRange
import Derived.Deep.DeepCutAuto
import Derived.Deep.RegionHeld3
namespace Go.Proofs.YthfnjlfhaibbeaaDoor
open Go.RowKit

def kwL (o : Option St) : List Value := match o with
  | none => [.int .i64 0, .int .i64 0, .int .i64 0]
  | some s => [.int .i64 1, .int .i64 s.1, .int .i64 s.2]
theorem kwL_len (o : Option St) : (kwL o).length = 3 := by cases o <;> rfl
/-- What Looks answers. -/
def LkP (g : PgP) (w : World) (e : Ending) (w' : World) : Prop := Below w.heap.size w w' ∧ match looksF cfB g with
  | (some pl, _) => ∃ qb, e = .returned (.tuple #[.slice (some ⟨qb, 0, none⟩) pl.length pl.length, .int .i64 0, .int .i64 0]) ∧ Box w' qb (flR kwL pl) ∧ w.heap.size ≤ qb
  | (none, n) => e = .returned (.tuple #[.slice none 0 0, .int .i64 (n : Nat), .int .i64 41])
theorem info_kw : (Tryd.prog.info? 46).map (fun i => (i.zero, i.size, i.bytes)) = some (some (.agg #[.int .i64 0, .int .i64 0, .int .i64 0]), 3, 24) := by kernel_rfl
theorem info_kw' : ∃ i, Tryd.prog.info? 46 = some i ∧ i.zero = some (.agg #[.int .i64 0, .int .i64 0, .int .i64 0]) ∧ i.size = 3 ∧ i.bytes = 24 := by
  have h := info_kw
  cases e : Tryd.prog.info? 46 with
  | none => rw [e] at h; cases h
  | some i =>
    rw [e] at h
    simp only [Option.map_some, Option.some.injEq, Prod.mk.injEq] at h
    exact ⟨i, rfl, h.1, h.2.1, h.2.2⟩
theorem made_kw (n : Nat) : (madeCells #[Value.int .i64 0, .int .i64 0, .int .i64 0] (n * 3)).toList = flR kwL (List.replicate n none) := by
  apply List.ext_getElem?
  intro i
  by_cases hi : i < n * 3
  · have h3 : i / 3 < n := by omega
    have hm : i % 3 = 0 ∨ i % 3 = 1 ∨ i % 3 = 2 := by omega
    have hat : (List.replicate n (none : Option St))[i / 3]? = some none := by simp [h3]
    have hr := fun u h => flR_at kwL_len (List.replicate n none) (i / 3) (i % 3) none u hat h
    rw [show i / 3 * 3 + i % 3 = i by omega] at hr
    rcases hm with hm | hm | hm
    · rw [hr (.int .i64 0) (by rw [hm]; rfl)]
      simp [madeCells, hi, hm]
    · rw [hr (.int .i64 0) (by rw [hm]; rfl)]
      simp [madeCells, hi, hm]
    · rw [hr (.int .i64 0) (by rw [hm]; rfl)]
      simp [madeCells, hi, hm]
  · rw [List.getElem?_eq_none (by simp [size_madeCells]; omega), List.getElem?_eq_none (by rw [flR_len kwL 3 kwL_len]; simp; omega)]
theorem run_kw (N : Nat) (hN : N ≤ 16384) (W : World) : (Instr.makeSlice 39 (.int .i64 (N : Int)) (.int .i64 (N : Int))).run Tryd.prog W = .ok (.slice (some ⟨W.heap.size, 0, none⟩) N N) (W.alloc (.cells (madeCells #[.int .i64 0, .int .i64 0, .int .i64 0] (N * 3)) 46)) := by
  obtain ⟨i0, hi, hz0, hz1, hz2⟩ := info_kw'
  have hb : (i0.bytes : Int) * (N : Int) ≤ 281474976710656 := by rw [hz2]; omega
  have hr := run_make (P := Tryd.prog) W 39 46 i0 (.agg #[.int .i64 0, .int .i64 0, .int .i64 0]) Tryd.underlying39 hi hz0 .i64 .i64 N N (by omega) (Int.le_refl _) hb (by omega)
  simp only [Int.toNat_natCast, hz1] at hr
  exact hr
theorem kw_arr (n : Nat) : madeCells #[Value.int .i64 0, .int .i64 0, .int .i64 0] (n * 3) = (flR kwL (List.replicate n none)).toArray := by rw [← made_kw, Array.toArray_toList]
theorem kw_start {N : Nat} (h : 1 ≤ N) : (flR kwL (List.replicate N none)).set 0 (.int .i64 1) = flR kwL (startF N) := by
  obtain ⟨n, rfl⟩ : ∃ n, N = n + 1 := ⟨N - 1, by omega⟩
  simp [startF, List.replicate_succ, flR, kwL]
theorem kw_set {w : World} {qb : Nat} {pl : List (Option St)} (h : Box w qb (flR kwL pl)) (i : Nat) (hi : i < pl.length) (s : St) : Box (((w.setCell ⟨qb, i * 3, none⟩ (.int .i64 1)).setCell ⟨qb, i * 3 + 1, none⟩ (.int .i64 s.1)).setCell ⟨qb, i * 3 + 2, none⟩ (.int .i64 s.2)) qb (flR kwL (pl.set i (some s))) := by
  have hl := flR_len kwL 3 kwL_len pl
  have h1 := ((h.set (i * 3) (by omega) (.int .i64 1)).set (i * 3 + 1) (by simp; omega) (.int .i64 s.1)).set (i * 3 + 2) (by simp; omega) (.int .i64 s.2)
  rw [flR_set3 kwL kwL_len (some s) _ _ _ rfl pl i hi] at h1
  exact h1
theorem set_same {pl : List (Option St)} {i : Nat} {s : St} (h : pl[i]? = some (some s)) : pl.set i (some s) = pl := by
  obtain ⟨hl, h3⟩ := List.getElem?_eq_some_iff.1 h
  rw [← h3]
  exact List.set_getElem_self hl
theorem kw_zero {N : Nat} (h : 1 ≤ N) : (madeCells #[Value.int .i64 0, .int .i64 0, .int .i64 0] (N * 3))[0]? = some (.int .i64 0) := by
  have h3 : 0 < N * 3 := by omega
  simp [madeCells, h3]
theorem kw_first {N : Nat} (h : 1 ≤ N) : (madeCells #[Value.int .i64 0, .int .i64 0, .int .i64 0] (N * 3)).setIfInBounds 0 (.int .i64 1) = (flR kwL (startF N)).toArray := by
  rw [kw_arr, ← kw_start h, List.setIfInBounds_toArray]
theorem kw_at (o : Option St) : ∃ kn hv tv : Int, Hid (kwL o = [.int .i64 kn, .int .i64 hv, .int .i64 tv]) ∧ ((kn = 0 ∧ hv = 0 ∧ tv = 0 ∧ o = none) ∨ (kn = 1 ∧ o = some (hv, tv))) := by
  cases o with
  | none => exact ⟨0, 0, 0, chid rfl, .inl ⟨rfl, rfl, rfl, rfl⟩⟩
  | some s => exact ⟨1, s.1, s.2, chid rfl, .inr ⟨rfl, rfl⟩⟩
theorem step_off {g : PgP} {i : Nat} {pl : List (Option St)} (h : pl.getD i none = none) : stepF g i pl = none := by
  unfold stepF
  rw [h]
theorem step_on {g : PgP} {i : Nat} {pl : List (Option St)} {hv tv op a : Int} (h : pl.getD i none = some (hv, tv)) (hx : g.C.getD i in0 = (op, a)) : stepF g i pl = if (waysF i op a hv tv).2 && argF g op a then goesF g.h i (waysF i op a hv tv).1 pl else none := by
  unfold stepF
  rw [h, hx]
theorem goes_cons {hm i : Int} {x : Wy} {l : List Wy} {pl : List (Option St)} : goesF hm i (x :: l) pl = (goF hm i pl x).bind (goesF hm i l) := rfl
set_option maxHeartbeats 4000000 in
set_option maxRecDepth 20000 in
theorem rLooks_c (g : PgP) (u : PgV) (w : World) (h : PgRd w g u) (ho : PgOk g) : Calls Tryd.prog 14 #[pgV g u] w (LkP g w) := by
  obtain ⟨a1, c1, a2, c2, a3, c3, a4, c4, rfl⟩ := h.shapeV
  obtain ⟨Y0, YB⟩ := one_box w 31 (pgL g (⟨.slice a1 g.K.length c1, .slice a2 g.wins.length c2, .slice a3 g.crons.length c3, .slice a4 g.C.length c4⟩ : PgV))
  have HY := chid Y0
  have HB := chid YB
  have HH := chid (fun W (hb : Below w.heap.size w W) => rHead_c g _ W (h.next hb) ho)
  have HAr := chid (fun op a h0 h1 W (hb : Below w.heap.size w W) => rArg_c g _ op a h0 h1 W (h.next hb) ho)
  have HRd := chid (fun W (hb : Below w.heap.size w W) => (h.next hb).c)
  have HOk := chid ho
  have HNo : Hid (∀ w' n, Below w.heap.size w w' → looksF cfB g = (none, n) → LkP g w (.returned (.tuple #[.slice none 0 0, .int .i64 (n : Nat), .int .i64 41])) w') := chid (fun w' n hb hl => ⟨hb, by rw [hl]⟩)
  have HYs : Hid (∀ w' qb pl m, Below w.heap.size w w' → looksF cfB g = (some pl, m) → Box w' qb (flR kwL pl) → w.heap.size ≤ qb → LkP g w (.returned (.tuple #[.slice (some ⟨qb, 0, none⟩) pl.length pl.length, .int .i64 0, .int .i64 0])) w') := chid (fun w' qb pl m hb hl hx hq => ⟨hb, by rw [hl]; exact ⟨qb, rfl, hx, hq⟩⟩)
  clear h ho Y0 YB
  generalize hPost : LkP g w = Post at *
  clear hPost
  go_enter Tryd.func14, Tryd.ntmps14
  have x0 := HY.out.cell 0 _ rfl
  go_wp2_with fail
  refine Calls.mono (HH.out _ HB.out) ?_
  rintro e w1 ⟨rfl, b1⟩
  have HB1 := chid (bel_to HB.out b1)
  have HX1 := chid (HY.out.next b1)
  clear b1 HH HY HB x0
  cases hb : headB cfB g with
  | false =>
    have HL : Hid (looksF cfB g = (none, 0)) := chid (by unfold looksF; rw [hb]; rfl)
    clear hb
    go_wp2_with fail
    refine bodyPost_ret (v := .tuple #[.slice none 0 0, .int .i64 0, .int .i64 41]) (by simp [results, Tryd.results14, go_sem, *]) rfl ?_
    exact HNo.out _ 0 HB1.out HL.out
  | true =>
    have HL : Hid (looksF cfB g = loopF g g.C.length 0 (startF g.C.length)) := chid (by unfold looksF; rw [hb]; rfl)
    have hfew : 1 ≤ g.C.length ∧ g.C.length ≤ 16384 ∧ 0 ≤ g.h ∧ g.h ≤ 4096 := by
      unfold headB fewB at hb
      simp at hb
      omega
    clear hb
    obtain ⟨hC1, hC2, hh0, hh1⟩ := hfew
    have z11 := HX1.out.cell 11 _ rfl
    have zl := HX1.out.lt
    obtain ⟨N, hN⟩ : ∃ N, Hid (N = g.C.length) := ⟨_, chid rfl⟩
    rw [← hN.out] at hC1 hC2 z11 HAr HX1 ⊢
    have hmk := run_kw N hC2
    have hm0 := kw_zero hC1
    go_wp2_with fail
    rw [kw_first hC1]
    have al1 := bel_alloc w1 (.cells (flR kwL (startF N)).toArray 46)
    have HQ0 := chid (Box.new w1 (flR kwL (startF N)) 46)
    have HB2 := chid al1
    have HPi := chid (start_in g N hh0)
    have HL0 : Hid (looksF cfB g = loopF g (N - 0) 0 (startF N)) := chid (by rw [HL.out, ← hN.out, Nat.sub_zero])
    obtain ⟨qb, hqb⟩ : ∃ x, Hid (x = w1.heap.size) := ⟨_, chid rfl⟩
    rw [← hqb.out] at HQ0
    have hq1 : w1.heap.size ≤ qb := by have := hqb.out; omega
    have hwq : w.heap.size < qb := by have := hqb.out; omega
    rw [show (⟨w1.heap.size, 0, none⟩ : Addr) = ⟨qb, 0, none⟩ by rw [hqb.out]]
    generalize w1.alloc (.cells (flR kwL (startF N)).toArray 46) = w2 at HQ0 HB2 ⊢
    clear z11 zl hmk hm0 al1 HL hqb
    go_loopw [7] (fun z wr => ∃ (i : Nat) (pl : List (Option St)), z = .int .i64 (i : Nat) ∧ i ≤ N ∧ Hid (looksF cfB g = loopF g (N - i) i pl) ∧ Hid (pl.length = N) ∧ Hid (PIn g pl) ∧ Hid (Box wr qb (flR kwL pl)) ∧ Hid (Below w1.heap.size w1 wr)) (fun z _ => match z with | .int _ z => ((N : Int) - z).toNat | _ => 0)
    case atStart => exact ⟨0, startF N, rfl, by omega, HL0, chid (start_len N), HPi, HQ0, HB2⟩
    case round =>
      obtain ⟨i, pl, rfl, hi, HLk, HLn, HP, HQ, HBr⟩ := hrel
      clear HL0 HPi HQ0 HB2
      by_cases hlt : i < N
      · have hlt' : (i : Int) < (N : Int) := by omega
        have hkl : i < g.C.length := by rw [← hN.out]; exact hlt
        have hpl : i < pl.length := by rw [HLn.out]; exact hlt
        have hC := HRd.out wr (bel_to HB1.out HBr.out)
        obtain ⟨cb, coff, ccap, hv, hc1, hc2, hcl, hcx⟩ := RowsK.open hC (show 0 < g.C.length by omega)
        cases hv
        have y1 := hcx i hkl 0 _ rfl
        have y2 := hcx i hkl 1 _ rfl
        rw [Nat.add_zero] at y1
        have hox := HOk.out.C (g.C.getD i in0) (by
          rw [show g.C.getD i in0 = g.C[i] by simp [List.getD, hkl]]
          exact List.getElem_mem hkl)
        obtain ⟨op, a, hxe⟩ : ∃ op a, Hid (g.C.getD i in0 = (op, a)) := ⟨_, _, chid rfl⟩
        rw [hxe.out] at y1 y2 hox
        simp only at y1 y2 hox
        have ha0 := hox.2.1
        have ha1 := hox.2.2
        obtain ⟨kn, hv, tv, hkw, hto⟩ := kw_at (pl.getD i none)
        have hpg : pl[i]? = some (pl.getD i none) := by simp [List.getD, hpl]
        have q0 := HQ.out.cell _ _ (flR_at kwL_len pl i 0 _ (.int .i64 kn) hpg (by rw [hkw.out]; rfl))
        have q1 := HQ.out.cell _ _ (flR_at kwL_len pl i 1 _ (.int .i64 hv) hpg (by rw [hkw.out]; rfl))
        have q2 := HQ.out.cell _ _ (flR_at kwL_len pl i 2 _ (.int .i64 tv) hpg (by rw [hkw.out]; rfl))
        rw [Nat.add_zero] at q0
        have ql := HQ.out.lt
        have hbd : 0 ≤ hv ∧ hv ≤ 4096 ∧ 0 ≤ tv ∧ tv ≤ 4096 := by
          rcases hto with ⟨-, rfl, rfl, -⟩ | ⟨-, h1⟩
          · omega
          · have h2 := HP.out i _ (at_of_getD h1)
            simp only at h2
            omega
        obtain ⟨h0, h1, t0, t1⟩ := hbd
        have HW := chid (fun W => rWays_c i (by omega) op a hv tv h0 h1 t0 t1 W)
        have HXr := chid (HX1.out.next HBr.out)
        have z11 := HXr.out.cell 11 _ rfl
        have zl := HXr.out.lt
        have HHto := chid hto
        have al := bel_alloc wr (.cells #[.int .i64 op, .int .i64 a] 51)
        have HXx := chid (Box.new wr [.int .i64 op, .int .i64 a] 51)
        have HQa := chid (HQ.out.next al)
        have HXa := chid (HXr.out.next al)
        have HBa := chid (bel_to HBr.out al)
        obtain ⟨xb, hxb⟩ : ∃ x, Hid (x = wr.heap.size) := ⟨_, chid rfl⟩
        have hqx : qb < xb := by have := hxb.out; omega
        have hqa : Hid (qb < (wr.alloc (.cells #[.int .i64 op, .int .i64 a] 51)).heap.size) := chid (by rw [World.size_alloc]; omega)
        rw [← hxb.out] at HXx
        clear hto hpg hcx hC hox
        go_wp2_with fail
        clear q0 q1 q2 y1 y2 z11 zl ql HXr HQ
        rw [show (⟨wr.heap.size, 0, none⟩ : Addr) = ⟨xb, 0, none⟩ by rw [hxb.out]]
        generalize wr.alloc (.cells #[.int .i64 op, .int .i64 a] 51) = wa at HXx HQa HXa HBa hqa ⊢
        have hpg : pl[i]? = some (pl.getD i none) := by simp [List.getD, hpl]
        have q0 := HQa.out.cell _ _ (flR_at kwL_len pl i 0 _ (.int .i64 kn) hpg (by rw [hkw.out]; rfl))
        have q1 := HQa.out.cell _ _ (flR_at kwL_len pl i 1 _ (.int .i64 hv) hpg (by rw [hkw.out]; rfl))
        have q2 := HQa.out.cell _ _ (flR_at kwL_len pl i 2 _ (.int .i64 tv) hpg (by rw [hkw.out]; rfl))
        rw [Nat.add_zero] at q0
        have ql := HQa.out.lt
        have x0 := HXx.out.cell 0 _ rfl
        have x1 := HXx.out.cell 1 _ rfl
        have xl := HXx.out.lt
        clear hpg
        obtain ⟨lw, hlw⟩ : ∃ x, Hid (x = (waysF i op a hv tv).1) := ⟨_, chid rfl⟩
        obtain ⟨okb, hokb⟩ : ∃ x, Hid (x = (waysF i op a hv tv).2) := ⟨_, chid rfl⟩
        unfold WyP at HW
        rw [← hlw.out, ← hokb.out] at HW
        go_upto_region 10 with fail
        go_cut [9, 10] (fun s9 s10 wd => ∃ (la : Option Addr) (lc : Nat), s9 = .slice la lw.length lc ∧ s10 = .bool okb ∧ Hid (Below wa.heap.size wa wd) ∧ Hid (WysAt wd (.slice la lw.length lc) lw) ∧ Hid (∀ b, (Value.slice la lw.length lc).ownBlock = some b → wa.heap.size ≤ b))
        case first =>
          first | go_region_with (first | (go_at_call 17; refine Calls.mono (HW.out _) ?_; rintro e w5 ⟨b5, v5, rfl, h5, o5⟩; obtain ⟨la, lc, rfl, -, -⟩ := RowsK.shape h5; have HB5 := chid (bel_to (w := wa) (by first | exact cdrewN (Below.refl _ _) _ | exact (cdrewN (Below.refl _ _) _).drew) b5); have HL5 := chid h5; have HO5 := chid o5; clear b5 h5 o5) | fail "x") | fail "y"
          all_goals go_wp2_with fail
          all_goals go_meet
          all_goals exact ⟨la, lc, rfl, rfl, HB5, HL5, chid (fun b hb => Nat.le_trans (by first | exact Nat.le_refl _ | simp) (HO5.out b hb))⟩
        case rest =>
          obtain ⟨la, lc, rfl, rfl, HBc, HLc, HOc⟩ := hcut
          clear q0 q1 q2 ql x0 x1 xl
          have HBd := chid (bel_to HBa.out HBc.out)
          have HBw := chid (bel_to HB1.out HBd.out)
          have HXc := chid (HXa.out.next HBc.out)
          have HQc := chid (HQa.out.next HBc.out)
          have HXy := chid (HXx.out.next HBc.out)
          have hpg : pl[i]? = some (pl.getD i none) := by simp [List.getD, hpl]
          have q0 := HQc.out.cell _ _ (flR_at kwL_len pl i 0 _ (.int .i64 kn) hpg (by rw [hkw.out]; rfl))
          rw [Nat.add_zero] at q0
          have ql := HQc.out.lt
          have x0 := HXy.out.cell 0 _ rfl
          have x1 := HXy.out.cell 1 _ rfl
          have xl := HXy.out.lt
          have z0 := HXc.out.cell 0 _ rfl
          have z1 := HXc.out.cell 1 _ rfl
          have z2 := HXc.out.cell 2 _ rfl
          have z3 := HXc.out.cell 3 _ rfl
          have z4 := HXc.out.cell 4 _ rfl
          have z5 := HXc.out.cell 5 _ rfl
          have z6 := HXc.out.cell 6 _ rfl
          have z7 := HXc.out.cell 7 _ rfl
          have z8 := HXc.out.cell 8 _ rfl
          have z9 := HXc.out.cell 9 _ rfl
          have z10 := HXc.out.cell 10 _ rfl
          have z11 := HXc.out.cell 11 _ rfl
          have zl := HXc.out.lt
          have HAc := chid (HAr.out op a ha0 ha1 wc HBw.out)
          have hsub : N - i = (N - (i + 1)) + 1 := by omega
          clear hpg HXa HQa HXx HW
          by_cases e0 : kn = 0
          · have hno : pl.getD i none = none := by
              rcases HHto.out with ⟨-, -, -, h⟩ | ⟨h, -⟩
              · exact h
              · omega
            have HE : Hid (looksF cfB g = (none, i)) := chid (by rw [HLk.out, hsub]; exact loop_none (step_off hno))
            clear hno HAc hsub HHto
            subst e0
            go_wp2_with fail
            refine bodyPost_ret (v := .tuple #[.slice none 0 0, .int .i64 (i : Nat), .int .i64 41]) (by simp [results, Tryd.results14, go_sem, *]) rfl ?_
            exact HNo.out _ i HBw.out HE.out
          have hso : pl.getD i none = some (hv, tv) := by
            rcases HHto.out with ⟨h, -⟩ | ⟨-, h⟩
            · exact absurd h e0
            · exact h
          have HSt := chid (step_on hso hxe.out)
          rw [← hlw.out, ← hokb.out] at HSt
          have hk1 : (kn == 0) = false := by simpa using e0
          have hk2 : decide (kn = 0) = false := by simpa using e0
          clear hso HHto
          cases hk : okb with
          | false =>
            rw [hk] at HSt
            have HE : Hid (looksF cfB g = (none, i)) := chid (by rw [HLk.out, hsub]; exact loop_none HSt.out)
            clear HSt HAc hsub
            go_wp2_with fail
            refine bodyPost_ret (v := .tuple #[.slice none 0 0, .int .i64 (i : Nat), .int .i64 41]) (by simp [results, Tryd.results14, go_sem, *]) rfl ?_
            exact HNo.out _ i HBw.out HE.out
          | true =>
          rw [hk] at HSt
          cases hA : argF g op a with
          | false =>
            rw [hA] at HSt HAc
            have HE : Hid (looksF cfB g = (none, i)) := chid (by rw [HLk.out, hsub]; exact loop_none HSt.out)
            clear HSt hsub
            go_wp2_with fail
            refine Calls.mono HAc.out ?_
            rintro e w6 ⟨rfl, b6⟩
            have HB6 := chid (bel_to HBw.out b6)
            clear b6 HAc z0 z1 z2 z3 z4 z5 z6 z7 z8 z9 z10 z11 zl q0 ql x0 x1 xl
            go_wp2_with fail
            refine bodyPost_ret (v := .tuple #[.slice none 0 0, .int .i64 (i : Nat), .int .i64 41]) (by simp [results, Tryd.results14, go_sem, *]) rfl ?_
            exact HNo.out _ i HB6.out HE.out
          | true =>
          rw [hA] at HSt HAc
          have HSg : Hid (stepF g i pl = goesF g.h i lw pl) := chid HSt.out
          clear HSt
          go_wp2_with fail
          refine Calls.mono HAc.out ?_
          rintro e w6 ⟨rfl, b6⟩
          have HB6 := chid (bel_to HBd.out b6)
          have HX6 := chid (HXc.out.next b6)
          have HQ6 := chid (HQc.out.next b6)
          have HL6 := chid (RowsK.next HLc.out b6)
          clear b6 HAc z0 z1 z2 z3 z4 z5 z6 z7 z8 z9 z10 z11 zl q0 ql x0 x1 xl HXc HQc HLc HBd HBw HXy HBc
          go_wp2_with fail
          obtain ⟨M, hM⟩ : ∃ M, Hid (M = lw.length) := ⟨_, chid rfl⟩
          rw [← hM.out] at HL6 HOc ⊢
          have hMl : (M : Int) ≤ 9223372036854775807 := by
            obtain ⟨_, _, -, h1, h2⟩ := RowsK.shape HL6.out
            have := hM.out
            omega
          have HG0 : Hid (goesF g.h i lw pl = goesF g.h i (lw.drop 0) pl) := chid rfl
          go_loopw [11] (fun z wr2 => ∃ (k : Nat) (pk : List (Option St)), z = .int .i64 (k : Nat) ∧ k ≤ M ∧ Hid (goesF g.h i lw pl = goesF g.h i (lw.drop k) pk) ∧ Hid (pk.length = N) ∧ Hid (Box wr2 qb (flR kwL pk)) ∧ Hid (RowsK wr2 (.slice la M lc) M 3 (fun i => wyL (lw.getD i wy0))) ∧ Hid (Below w1.heap.size w1 wr2)) (fun z _ => match z with | .int _ z => ((M : Int) - z).toNat | _ => 0)
          case atStart => exact ⟨0, pl, rfl, by omega, HG0, HLn, HQ6, HL6, HB6⟩
          case round =>
            obtain ⟨k, pk, rfl, hk2, HG, HLk2, HQk, HWk, HBk⟩ := hrel
            clear HG0 HQ6 HL6 HB6
            have HBk2 := chid (bel_to HB1.out HBk.out)
            have HXk := chid (HX1.out.next HBk.out)
            by_cases hkt : k < M
            · have hkt' : (k : Int) < (M : Int) := by omega
              have hkw2 : k < lw.length := by rw [← hM.out]; exact hkt
              obtain ⟨lb, lo, lcap, hve2, -, -, hll, hlx⟩ := RowsK.open HWk.out (by omega)
              cases hve2
              have hlb := Nat.lt_of_lt_of_le hqa.out (HOc.out lb rfl)
              have p1 := hlx k hkt 0 _ rfl
              have p2 := hlx k hkt 1 _ rfl
              have p3 := hlx k hkt 2 _ rfl
              rw [Nat.add_zero] at p1
              have hgd : lw.getD k wy0 = lw[k] := by simp [List.getD, hkw2]
              have hdr : lw.drop k = lw[k] :: lw.drop (k + 1) := List.drop_eq_getElem_cons hkw2
              rw [hgd] at p1 p2 p3
              have HG2 : Hid (stepF g i pl = (goF g.h i pk lw[k]).bind (goesF g.h i (lw.drop (k + 1)))) := chid (by rw [HSg.out, HG.out, hdr, goes_cons])
              clear hgd hdr hlx HG
              generalize lw[k] = y at p1 p2 p3 HG2
              obtain ⟨yt, yh, yr⟩ := y
              simp only at p1 p2 p3
              have z10 := HXk.out.cell 10 _ rfl
              have zl := HXk.out.lt
              have hni : ¬ k = M := by omega
              by_cases e1 : yt ≤ (i : Int)
              · have HE : Hid (looksF cfB g = (none, i)) := chid (by rw [HLk.out, hsub]; exact loop_none (by rw [HG2.out]; unfold goF; rw [if_pos (.inl e1)]; rfl))
                have c1d : decide (yt ≤ (i : Int)) = true := decide_eq_true e1
                clear HG2 hsub
                go_wp2_with fail
                refine bodyPost_ret (v := .tuple #[.slice none 0 0, .int .i64 (i : Nat), .int .i64 41]) (by simp [results, Tryd.results14, go_sem, *]) rfl ?_
                exact HNo.out _ i (by first | exact HBk2.out | exact bel_to HBk2.out (bel_alloc _ _) | exact bel_to HBk2.out (two_al _ _)) HE.out
              have c1d : decide (yt ≤ (i : Int)) = false := decide_eq_false e1
              by_cases e2 : (N : Int) ≤ yt
              · have HE : Hid (looksF cfB g = (none, i)) := chid (by rw [HLk.out, hsub]; exact loop_none (by rw [HG2.out]; unfold goF; rw [if_pos (.inr (.inl (by rw [HLk2.out]; exact e2)))]; rfl))
                have c2d : decide ((N : Int) ≤ yt) = true := decide_eq_true e2
                clear HG2 hsub
                go_wp2_with fail
                refine bodyPost_ret (v := .tuple #[.slice none 0 0, .int .i64 (i : Nat), .int .i64 41]) (by simp [results, Tryd.results14, go_sem, *]) rfl ?_
                exact HNo.out _ i (by first | exact HBk2.out | exact bel_to HBk2.out (bel_alloc _ _) | exact bel_to HBk2.out (two_al _ _)) HE.out
              have c2d : decide ((N : Int) ≤ yt) = false := decide_eq_false e2
              by_cases e3 : g.h < yh
              · have HE : Hid (looksF cfB g = (none, i)) := chid (by rw [HLk.out, hsub]; exact loop_none (by rw [HG2.out]; unfold goF; rw [if_pos (.inr (.inr e3))]; rfl))
                have c3d : decide (g.h < yh) = true := decide_eq_true e3
                clear HG2 hsub
                go_wp2_with fail
                refine bodyPost_ret (v := .tuple #[.slice none 0 0, .int .i64 (i : Nat), .int .i64 41]) (by simp [results, Tryd.results14, go_sem, *]) rfl ?_
                exact HNo.out _ i (by first | exact HBk2.out | exact bel_to HBk2.out (bel_alloc _ _) | exact bel_to HBk2.out (two_al _ _)) HE.out
              have c3d : decide (g.h < yh) = false := decide_eq_false e3
              obtain ⟨m, rfl⟩ : ∃ m : Nat, yt = (m : Int) := ⟨yt.toNat, by omega⟩
              have hmN : m < N := by omega
              have hmN' : (m : Int) < (N : Int) := by omega
              have hmp : m < pk.length := by rw [HLk2.out]; exact hmN
              obtain ⟨kn2, hv2, tv2, hkw3, hto2⟩ := kw_at (pk.getD m none)
              have hpg : pk[m]? = some (pk.getD m none) := by simp [List.getD, hmp]
              have q0 := HQk.out.cell _ _ (flR_at kwL_len pk m 0 _ (.int .i64 kn2) hpg (by rw [hkw3.out]; rfl))
              have q1 := HQk.out.cell _ _ (flR_at kwL_len pk m 1 _ (.int .i64 hv2) hpg (by rw [hkw3.out]; rfl))
              have q2 := HQk.out.cell _ _ (flR_at kwL_len pk m 2 _ (.int .i64 tv2) hpg (by rw [hkw3.out]; rfl))
              have f0 := HQk.out.free (m * 3 + 0) (by rw [flR_len kwL 3 kwL_len]; omega)
              have f1 := HQk.out.free (m * 3 + 1) (by rw [flR_len kwL 3 kwL_len]; omega)
              have f2 := HQk.out.free (m * 3 + 2) (by rw [flR_len kwL 3 kwL_len]; omega)
              rw [Nat.add_zero] at q0 f0
              have ql := HQk.out.lt
              have HGo : Hid (goF g.h i pk ((m : Int), yh, yr) = match pk.getD m none with | none => some (pk.set m (some (yh, yr))) | some s => if s = (yh, yr) then some pk else none) := chid (by
                unfold goF
                rw [if_neg (by simp only; rw [HLk2.out]; omega)]
                simp only [Int.toNat_natCast]
                cases pk.getD m none <;> rfl)
              have HSame : Hid (∀ s, pk.getD m none = some s → pk.set m (some s) = pk) := chid (fun s hs => set_same (at_of_getD hs))
              clear hpg
              have HSt : Hid (∀ ob1 ob2 : Obj, Box ((((((wr.setCell ⟨qb, m * 3, none⟩ (.int .i64 1)).setCell ⟨qb, m * 3 + 1, none⟩ (.int .i64 yh)).setCell ⟨qb, m * 3 + 2, none⟩ (.int .i64 yr)).alloc ob1).alloc ob2)) qb (flR kwL (pk.set m (some (yh, yr))))) := chid (fun ob1 ob2 => (kw_set HQk.out m hmp (yh, yr)).next (two_al _ _))
              have HTu : Hid (∀ ob1 ob2 : Obj, RowsK ((((((wr.setCell ⟨qb, m * 3, none⟩ (.int .i64 1)).setCell ⟨qb, m * 3 + 1, none⟩ (.int .i64 yh)).setCell ⟨qb, m * 3 + 2, none⟩ (.int .i64 yr)).alloc ob1).alloc ob2)) (.slice (some ⟨lb, lo, none⟩) M lc) M 3 (fun i => wyL (lw.getD i wy0))) := chid (fun ob1 ob2 => RowsK.turn (S := [qb]) HWk.out (((((Turn.of_below (Below.refl _ _)).andSet _ _ (.inl (by simp))).andSet _ _ (.inl (by simp))).andSet _ _ (.inl (by simp))).andBelow (two_al _ _)) (fun b hb hm => by have h1 := HOc.out b hb; have h2 := hqa.out; simp at hm; omega))
              have HBb : Hid (∀ ob1 ob2 : Obj, Below w1.heap.size w1 ((((((wr.setCell ⟨qb, m * 3, none⟩ (.int .i64 1)).setCell ⟨qb, m * 3 + 1, none⟩ (.int .i64 yh)).setCell ⟨qb, m * 3 + 2, none⟩ (.int .i64 yr)).alloc ob1).alloc ob2))) := chid (fun ob1 ob2 => bel_to (((HBk.out.setCell hq1 _).setCell hq1 _).setCell hq1 _) (two_al _ _))
              have HLs : Hid ((pk.set m (some (yh, yr))).length = N) := chid (by rw [List.length_set]; exact HLk2.out)
              rcases hto2 with ⟨rfl, rfl, rfl, hno⟩ | ⟨rfl, hso⟩
              · have HGs : Hid (goesF g.h i lw pl = goesF g.h i (lw.drop (k + 1)) (pk.set m (some (yh, yr)))) := chid (by rw [← HSg.out, HG2.out, HGo.out, hno]; rfl)
                clear HGo HSame HG2 hno
                go_wp2_with fail
                refine ⟨⟨k + 1, _, by go_num, by omega, HGs, HLs, chid (HSt.out _ _), chid (HTu.out _ _), chid (HBb.out _ _)⟩, ?_⟩
                show ((M : Int) - ((k : Int) + 1)).toNat < ((M : Int) - (k : Int)).toNat
                omega
              · by_cases d1 : hv2 = yh
                · by_cases d2 : tv2 = yr
                  · subst d1 d2
                    have HGs : Hid (goesF g.h i lw pl = goesF g.h i (lw.drop (k + 1)) (pk.set m (some (hv2, tv2)))) := chid (by rw [← HSg.out, HG2.out, HGo.out, hso, HSame.out _ hso]; simp)
                    have n1 : (hv2 != hv2) = false := by simp
                    have n2 : (tv2 != tv2) = false := by simp
                    clear HGo HSame HG2 hso
                    go_wp2_with fail
                    refine ⟨⟨k + 1, _, by go_num, by omega, HGs, HLs, chid (HSt.out _ _), chid (HTu.out _ _), chid (HBb.out _ _)⟩, ?_⟩
                    show ((M : Int) - ((k : Int) + 1)).toNat < ((M : Int) - (k : Int)).toNat
                    omega
                  · have HE : Hid (looksF cfB g = (none, i)) := chid (by rw [HLk.out, hsub]; exact loop_none (by rw [HG2.out, HGo.out, hso]; simp [d2]))
                    subst d1
                    have n1 : (hv2 != hv2) = false := by simp
                    have n2 : (tv2 != yr) = true := by simp [d2]
                    clear HGo HSame HG2 hso HSt HTu HBb HLs hsub
                    go_wp2_with fail
                    refine bodyPost_ret (v := .tuple #[.slice none 0 0, .int .i64 (i : Nat), .int .i64 41]) (by simp [results, Tryd.results14, go_sem, *]) rfl ?_
                    exact HNo.out _ i (by first | exact HBk2.out | exact bel_to HBk2.out (bel_alloc _ _) | exact bel_to HBk2.out (two_al _ _)) HE.out
                · have HE : Hid (looksF cfB g = (none, i)) := chid (by rw [HLk.out, hsub]; exact loop_none (by rw [HG2.out, HGo.out, hso]; simp [d1]))
                  have n1 : (hv2 != yh) = true := by simp [d1]
                  clear HGo HSame HG2 hso HSt HTu HBb HLs hsub
                  go_wp2_with fail
                  refine bodyPost_ret (v := .tuple #[.slice none 0 0, .int .i64 (i : Nat), .int .i64 41]) (by simp [results, Tryd.results14, go_sem, *]) rfl ?_
                  exact HNo.out _ i (by first | exact HBk2.out | exact bel_to HBk2.out (bel_alloc _ _) | exact bel_to HBk2.out (two_al _ _)) HE.out
            · have hkt' : ¬ (k : Int) < (M : Int) := by omega
              have hst : stepF g i pl = some pk := by
                rw [HSg.out, HG.out, List.drop_of_length_le (by have := hM.out; omega)]
                rfl
              have h2 := stepF_in hst HP.out
              have HE : Hid (looksF cfB g = loopF g (N - (i + 1)) (i + 1) pk) := chid (by rw [HLk.out, hsub]; exact loop_some hst)
              have HP2 := chid h2.1
              clear hst h2 HSg HG hsub
              go_wp2_with fail
              refine ⟨⟨i + 1, pk, by go_num, by omega, HE, HLk2, HP2, HQk, HBk⟩, ?_⟩
              show ((N : Int) - ((i : Int) + 1)).toNat < ((N : Int) - (i : Int)).toNat
              omega
      · have hlt' : ¬ (i : Int) < (N : Int) := by omega
        obtain rfl : i = N := by omega
        have HE : Hid (looksF cfB g = (some pl, 0)) := chid (by rw [HLk.out, Nat.sub_self]; rfl)
        have HF := HYs.out wr qb pl 0 (bel_to HB1.out HBr.out) HE.out HQ.out (by omega)
        rw [HLn.out] at HF
        have HF := chid HF
        go_wp2_with fail
        refine bodyPost_ret (v := .tuple #[.slice (some ⟨qb, 0, none⟩) i i, .int .i64 0, .int .i64 0]) (by simp [results, Tryd.results14, go_sem, *]) rfl ?_
        exact HF.out
set_option maxHeartbeats 1000000 in
set_option maxRecDepth 20000 in
theorem rCheck_c (g : PgP) (u : PgV) (w : World) (h : PgRd w g u) (ho : PgOk g) : Calls Tryd.prog 16 #[pgV g u] w fun e w' => e = .returned (.tuple #[.int .i64 (ckF g).1, .int .i64 (ckF g).2]) ∧ Below w.heap.size w w' := by
  have XB := bel_alloc w (.cells (pgL g u).toArray 31)
  have HC := chid (rLooks_c g u _ (h.next XB) ho)
  have HXB := chid XB
  clear XB
  unfold LkP at HC
  unfold ckF
  clear h ho
  cases hl : looksF cfB g with
  | mk q n =>
    rw [hl] at HC
    clear hl
    cases q with
    | none =>
      simp only at HC ⊢
      go_enter Tryd.func16, Tryd.ntmps16
      go_wp2_with fail
      refine Calls.mono HC.out ?_
      rintro e w1 ⟨b1, rfl⟩
      go_wp2_with fail
      refine bodyPost_ret (v := .tuple #[.int .i64 (n : Nat), .int .i64 41]) (by simp [results, Tryd.results16, go_sem, *]) rfl ⟨rfl, cbelow_on HXB.out b1 HXB.out.size⟩
    | some pl =>
      simp only at HC ⊢
      go_enter Tryd.func16, Tryd.ntmps16
      go_wp2_with fail
      refine Calls.mono HC.out ?_
      rintro e w1 ⟨b1, qb, rfl, -, -⟩
      go_wp2_with fail
      refine bodyPost_ret (v := .tuple #[.int .i64 0, .int .i64 0]) (by simp [results, Tryd.results16, go_sem, *]) rfl ⟨rfl, cbelow_on HXB.out b1 HXB.out.size⟩
end Go.Proofs.YthfnjlfhaibbeaaDoor

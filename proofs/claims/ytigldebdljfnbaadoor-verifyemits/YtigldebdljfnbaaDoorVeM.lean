/- Package verify: walked. -/
import Derived.Test.YtigldebdljfnbaaDoorNcD
import Derived.Deep.Cut
import Derived.Deep.CutRange
import Derived.Deep.DeepCutAuto
namespace Go.Proofs.YtigldebdljfnbaaDoor
open Go.RowKit

def SoundC : Prop := ∀ (w0 : World) (wb qb : Nat) (g : PgP) (u : PgV) (pl : List (Option St)) (i : Nat), i < g.C.length → pl.length = g.C.length → g.C.length ≤ 16384 → g.h ≤ 4096 → PgOk g → PIn g pl → TabAt w0 → ∀ w : World, Wa w0 w wb qb g u pl → Calls Tryd.prog 27 #[.pointer (some ⟨wb, 0, none⟩), .int .i64 (i : Nat)] w (WaP (stepR g i pl) w0 wb qb g u)
def WkP (g : PgP) (w : World) (e : Ending) (w' : World) : Prop := Below w.heap.size w w' ∧ match looksF cfB g with
  | (some pl, _) => ∃ qb, e = .returned (.tuple #[.slice (some ⟨qb, 0, none⟩) pl.length pl.length, .int .i64 0, .int .i64 0]) ∧ Box w' qb (flR pcL pl) ∧ w.heap.size ≤ qb
  | (none, n) => e = .returned (.tuple #[.slice none 0 0, .int .i64 (n : Nat), .int .i64 41])
theorem info_pl : (Tryd.prog.info? 67).map (fun i => (i.zero, i.size, i.bytes)) = some (some (.agg #[.bool false, .int .i64 0, .int .i64 0]), 3, 24) := by kernel_rfl
theorem info_pl' : ∃ i, Tryd.prog.info? 67 = some i ∧ i.zero = some (.agg #[.bool false, .int .i64 0, .int .i64 0]) ∧ i.size = 3 ∧ i.bytes = 24 := by
  have h := info_pl
  cases e : Tryd.prog.info? 67 with
  | none => rw [e] at h; cases h
  | some i =>
    rw [e] at h
    simp only [Option.map_some, Option.some.injEq, Prod.mk.injEq] at h
    exact ⟨i, rfl, h.1, h.2.1, h.2.2⟩
theorem made_pl (n : Nat) : (madeCells #[Value.bool false, .int .i64 0, .int .i64 0] (n * 3)).toList = flR pcL (List.replicate n none) := by
  apply List.ext_getElem?
  intro i
  by_cases hi : i < n * 3
  · have h3 : i / 3 < n := by omega
    have hm : i % 3 = 0 ∨ i % 3 = 1 ∨ i % 3 = 2 := by omega
    have hat : (List.replicate n (none : Option St))[i / 3]? = some none := by simp [h3]
    have hr := fun u h => flR_at pcL_len (List.replicate n none) (i / 3) (i % 3) none u hat h
    rw [show i / 3 * 3 + i % 3 = i by omega] at hr
    rcases hm with hm | hm | hm
    · rw [hr (.bool false) (by rw [hm]; rfl)]
      simp [madeCells, hi, hm]
    · rw [hr (.int .i64 0) (by rw [hm]; rfl)]
      simp [madeCells, hi, hm]
    · rw [hr (.int .i64 0) (by rw [hm]; rfl)]
      simp [madeCells, hi, hm]
  · rw [List.getElem?_eq_none (by simp [size_madeCells]; omega), List.getElem?_eq_none (by rw [flR_len pcL 3 pcL_len]; simp; omega)]
theorem run_pl (N : Nat) (hN : N ≤ 16384) (W : World) : (Instr.makeSlice 61 (.int .i64 (N : Int)) (.int .i64 (N : Int))).run Tryd.prog W = .ok (.slice (some ⟨W.heap.size, 0, none⟩) N N) (W.alloc (.cells (madeCells #[.bool false, .int .i64 0, .int .i64 0] (N * 3)) 67)) := by
  obtain ⟨i0, hi, hz0, hz1, hz2⟩ := info_pl'
  have hb : (i0.bytes : Int) * (N : Int) ≤ 281474976710656 := by rw [hz2]; omega
  have hr := run_make (P := Tryd.prog) W 61 67 i0 (.agg #[.bool false, .int .i64 0, .int .i64 0]) Tryd.underlying61 hi hz0 .i64 .i64 N N (by omega) (Int.le_refl _) hb (by omega)
  simp only [Int.toNat_natCast, hz1] at hr
  exact hr
theorem made_arr (n : Nat) : madeCells #[Value.bool false, .int .i64 0, .int .i64 0] (n * 3) = (flR pcL (List.replicate n none)).toArray := by rw [← made_pl, Array.toArray_toList]
theorem start_set {N : Nat} (h : 1 ≤ N) : (flR pcL (List.replicate N none)).set 0 (.bool true) = flR pcL (startF N) := by
  obtain ⟨n, rfl⟩ : ∃ n, N = n + 1 := ⟨N - 1, by omega⟩
  simp [startF, List.replicate_succ, flR, pcL]
theorem start_len (N : Nat) : (startF N).length = N := by simp [startF]
theorem loop_some {g : PgP} {k i : Nat} {pl pl' : List (Option St)} (h : stepF g i pl = some pl') : loopF g (k + 1) i pl = loopF g k (i + 1) pl' := by
  show (match stepF g i pl with | none => (none, i) | some p => loopF g k (i + 1) p) = _
  rw [h]
theorem loop_none {g : PgP} {k i : Nat} {pl : List (Option St)} (h : stepF g i pl = none) : loopF g (k + 1) i pl = (none, i) := by
  show (match stepF g i pl with | none => (none, i) | some p => loopF g k (i + 1) p) = _
  rw [h]
set_option maxHeartbeats 4000000 in
set_option maxRecDepth 20000 in
theorem walked_c (HS : SoundC) (g : PgP) (u : PgV) (w : World) (h : PgRd w g u) (ho : PgOk g) (hF : FldAt w) (hT : TabAt w) : Calls Tryd.prog 15 #[pgV g u] w (WkP g w) := by
  have HR := chid h
  have HT := chid hT
  have HOk := chid ho
  have HSd := chid HS
  have HNo : Hid (∀ w' n, Below w.heap.size w w' → looksF cfB g = (none, n) → WkP g w (.returned (.tuple #[.slice none 0 0, .int .i64 (n : Nat), .int .i64 41])) w') := chid (fun w' n hb hl => ⟨hb, by rw [hl]⟩)
  have HYs : Hid (∀ w' qb pl m, Below w.heap.size w w' → looksF cfB g = (some pl, m) → Box w' qb (flR pcL pl) → w.heap.size ≤ qb → WkP g w (.returned (.tuple #[.slice (some ⟨qb, 0, none⟩) pl.length pl.length, .int .i64 0, .int .i64 0])) w') := chid (fun w' qb pl m hb hl hx hq => ⟨hb, by rw [hl]; exact ⟨qb, rfl, hx, hq⟩⟩)
  obtain ⟨a1, c1, e1, -⟩ := RowsK.shape h.k
  obtain ⟨a2, c2, e2, -⟩ := RowsK.shape h.wi
  obtain ⟨a3, c3, e3, -⟩ := RowsK.shape h.cr
  obtain ⟨a4, c4, e4, -⟩ := RowsK.shape h.c
  obtain ⟨uk, uw, ur, uc⟩ := u
  simp only at e1 e2 e3 e4
  subst e1 e2 e3 e4
  have HH := chid (fun W (hb : Below w.heap.size w W) => head_c g _ W (h.next hb) ho (hF.later hb))
  clear h ho hF hT HS
  generalize hPost : WkP g w = Post at *
  clear hPost
  go_enter Tryd.func15, Tryd.ntmps15
  go_wp2_with fail
  have XB := bel_alloc w (.cells (pgL g (⟨.slice a1 g.K.length c1, .slice a2 g.wins.length c2, .slice a3 g.crons.length c3, .slice a4 g.C.length c4⟩ : PgV)).toArray 38)
  have HX0 := chid (Box.new w (pgL g (⟨.slice a1 g.K.length c1, .slice a2 g.wins.length c2, .slice a3 g.crons.length c3, .slice a4 g.C.length c4⟩ : PgV)) 38)
  refine Calls.mono (HH.out _ XB) ?_
  rintro e w1 ⟨rfl, b1⟩
  have HB1 := chid (cbelow_on XB b1 XB.size)
  have HX1 := chid (HX0.out.next b1)
  clear XB b1 HX0 HH
  cases hb : headB cfB g with
  | false =>
    have HL : Hid (looksF cfB g = (none, 0)) := chid (by unfold looksF; rw [hb]; rfl)
    clear hb
    go_wp2_with fail
    refine bodyPost_ret (v := .tuple #[.slice none 0 0, .int .i64 0, .int .i64 41]) (by simp [results, Tryd.results15, go_sem, *]) rfl ?_
    exact HNo.out _ 0 HB1.out HL.out
  | true =>
    have HL : Hid (looksF cfB g = loopF g g.C.length 0 (startF g.C.length)) := chid (by unfold looksF; rw [hb]; rfl)
    have hfew : 1 ≤ g.C.length ∧ g.C.length ≤ 16384 ∧ 0 ≤ g.h ∧ g.h ≤ 4096 := by
      unfold headB vewB at hb
      simp at hb
      omega
    clear hb
    obtain ⟨hC1, hC2, hh0, hh1⟩ := hfew
    have z0 := HX1.out.cell 0 _ rfl
    have z1 := HX1.out.cell 1 _ rfl
    have z2 := HX1.out.cell 2 _ rfl
    have z3 := HX1.out.cell 3 _ rfl
    have z4 := HX1.out.cell 4 _ rfl
    have z5 := HX1.out.cell 5 _ rfl
    have z6 := HX1.out.cell 6 _ rfl
    have z7 := HX1.out.cell 7 _ rfl
    have z8 := HX1.out.cell 8 _ rfl
    have z9 := HX1.out.cell 9 _ rfl
    have z10 := HX1.out.cell 10 _ rfl
    have z11 := HX1.out.cell 11 _ rfl
    have zl := HX1.out.lt
    obtain ⟨N, hN⟩ : ∃ N, Hid (N = g.C.length) := ⟨_, chid rfl⟩
    rw [← hN.out] at hC1 hC2 z11 ⊢
    have hmk := run_pl N hC2
    go_upto_region 3 with fail
    go_cut [5] (fun s5 wd => ∃ wb qb : Nat, s5 = .pointer (some ⟨wb, 0, none⟩) ∧ wb ≠ qb ∧ w1.heap.size ≤ wb ∧ w1.heap.size ≤ qb ∧ Hid (Box wd wb (pgL g (⟨.slice a1 g.K.length c1, .slice a2 g.wins.length c2, .slice a3 g.crons.length c3, .slice a4 g.C.length c4⟩ : PgV) ++ [.slice (some ⟨qb, 0, none⟩) N N])) ∧ Hid (Box wd qb (flR pcL (List.replicate N none))) ∧ Hid (Below w1.heap.size w1 wd))
    case first =>
      go_region_held3 (fun w' => w'.cell? ⟨w.heap.size, 0, none⟩ = some (.int .i64 g.met) ∧ w'.cell? ⟨w.heap.size, 1, none⟩ = some (.int .i64 g.ru.mn) ∧ w'.cell? ⟨w.heap.size, 2, none⟩ = some (.int .i64 g.ru.mx) ∧ w'.cell? ⟨w.heap.size, 3, none⟩ = some (.int .i64 g.ru.st) ∧ w'.cell? ⟨w.heap.size, 4, none⟩ = some (.int .i64 g.ru.up) ∧ w'.cell? ⟨w.heap.size, 5, none⟩ = some (.int .i64 g.ru.dn) ∧ w'.cell? ⟨w.heap.size, 6, none⟩ = some (.slice a1 g.K.length c1) ∧ w'.cell? ⟨w.heap.size, 7, none⟩ = some (.slice a2 g.wins.length c2) ∧ w'.cell? ⟨w.heap.size, 8, none⟩ = some (.slice a3 g.crons.length c3) ∧ w'.cell? ⟨w.heap.size, 9, none⟩ = some (.int .i64 g.loc) ∧ w'.cell? ⟨w.heap.size, 10, none⟩ = some (.int .i64 g.h) ∧ w'.cell? ⟨w.heap.size, 11, none⟩ = some (.slice a4 N c4)) (simp [go_sem, *]) (fail)
      all_goals go_wp2_with fail
      all_goals go_meet
      · obtain ⟨k1, k2, k3⟩ := two_boxes w1 67 86 (flR pcL (List.replicate N none)) (pgL g (⟨.slice a1 g.K.length c1, .slice a2 g.wins.length c2, .slice a3 g.crons.length c3, .slice a4 g.C.length c4⟩ : PgV) ++ [.slice (some ⟨w1.heap.size, 0, none⟩) N N])
        rw [← made_arr] at k1 k2 k3
        rw [← hN.out] at k1 k2 k3
        exact ⟨_, _, rfl, by omega, by omega, by omega, chid (by rw [← hN.out]; exact k2.next (Below.refl _ _).drew), chid (k1.next (Below.refl _ _).drew), chid k3.drew⟩
      · obtain ⟨k1, k2, k3⟩ := two_boxes w1 86 67 (pgL g (⟨.slice a1 g.K.length c1, .slice a2 g.wins.length c2, .slice a3 g.crons.length c3, .slice a4 g.C.length c4⟩ : PgV) ++ [.slice (some ⟨w1.heap.size + 1, 0, none⟩) N N]) (flR pcL (List.replicate N none))
        rw [← made_arr] at k1 k2 k3
        rw [← hN.out] at k1 k2 k3
        exact ⟨_, _, rfl, by omega, by omega, by omega, chid (by rw [← hN.out]; exact k1.next (Below.refl _ _).drew), chid (k2.next (Below.refl _ _).drew), chid k3.drew⟩
    case rest =>
      obtain ⟨wb, qb, rfl, hne, hw1, hq1, HBw, HBq, HBd⟩ := hcut
      have HXd := chid (HX1.out.next HBd.out)
      have HRd := chid (HR.out.next HB1.out)
      have HTd := chid (HT.out.next HB1.out)
      have y12 := HBw.out.cell 12 _ rfl
      have yl := HBw.out.lt
      have q0 := HBq.out.cell 0 (.bool false) (by
        have h0 : (List.replicate N (none : Option St))[0]? = some none := by
          rw [List.getElem?_replicate, if_pos (show 0 < N by omega)]
        exact flR_at pcL_len (List.replicate N none) 0 0 none (.bool false) h0 rfl)
      have qf := HBq.out.free 0 (by rw [flR_len pcL 3 pcL_len, List.length_replicate]; omega)
      have ql := HBq.out.lt
      have p11 := HXd.out.cell 11 _ rfl
      have pl0 := HXd.out.lt
      rw [← hN.out] at p11
      have hN1 : (0 : Int) < (N : Int) := by omega
      have HWa : Hid (Wa w1 (wc.setCell ⟨qb, 0, none⟩ (.bool true)) wb qb g (⟨.slice a1 g.K.length c1, .slice a2 g.wins.length c2, .slice a3 g.crons.length c3, .slice a4 g.C.length c4⟩ : PgV) (startF N)) := chid (by
        refine ⟨HBd.out.setCell hq1 _, HRd.out, ?_, ?_, hw1, hq1, hne⟩
        · rw [start_len]
          exact HBw.out.other hne
        · have h1 := HBq.out.set 0 (by rw [flR_len pcL 3 pcL_len, List.length_replicate]; omega) (.bool true)
          rw [start_set hC1] at h1
          exact h1)
      have hgp : w.heap.size ≠ qb := by have := HX1.out.lt; omega
      have HL0 : Hid (looksF cfB g = loopF g (N - 0) 0 (startF N)) := chid (by rw [HL.out, ← hN.out, Nat.sub_zero])
      have HPi := chid (start_in g N hh0)
      clear z0 z1 z2 z3 z4 z5 z6 z7 z8 z9 z10 z11 zl hmk
      go_wp2_with fail
      clear y12 yl q0 qf ql p11 pl0 HBw HBq HXd HX1 HL HT HR
      go_loopw [23] (fun z wr => ∃ (i : Nat) (pl : List (Option St)), z = .int .i64 (i : Nat) ∧ i ≤ N ∧ Hid (looksF cfB g = loopF g (N - i) i pl) ∧ Hid (pl.length = N) ∧ Hid (PIn g pl) ∧ Hid (Wa w1 wr wb qb g (⟨.slice a1 g.K.length c1, .slice a2 g.wins.length c2, .slice a3 g.crons.length c3, .slice a4 g.C.length c4⟩ : PgV) pl)) (fun z _ => match z with | .int _ z => ((N : Int) - z).toNat | _ => 0)
      case atStart => exact ⟨0, startF N, rfl, by omega, HL0, chid (start_len N), HPi, HWa⟩
      case round =>
        obtain ⟨i, pl, rfl, hi, HLk, HLn, HP, HW⟩ := hrel
        clear HL0 HPi HWa
        by_cases hlt : i < N
        · have hlt' : (i : Int) < (N : Int) := by omega
          have HC := chid (HSd.out w1 wb qb g _ pl i (by rw [← hN.out]; exact hlt) (by rw [HLn.out, hN.out]) (by rw [← hN.out]; exact hC2) hh1 HOk.out HP.out HTd.out wr HW.out)
          have hse : stepR g i pl = stepF g i pl := step_eq HP.out (by rw [HLn.out]; exact hC2)
          rw [hse] at HC
          go_wp2_with fail
          refine Calls.mono HC.out ?_
          rintro e w5 ⟨f1, f2⟩
          have HF1 := chid (cbelow_on HB1.out f1 HB1.out.size)
          clear HC hse f1
          have hsub : N - i = (N - (i + 1)) + 1 := by omega
          cases hq : stepF g i pl with
          | none =>
            rw [hq] at f2
            obtain rfl := f2
            have HE : Hid (looksF cfB g = (none, i)) := chid (by rw [HLk.out, hsub]; exact loop_none hq)
            clear hq
            go_wp2_with fail
            refine bodyPost_ret (v := .tuple #[.slice none 0 0, .int .i64 (i : Nat), .int .i64 41]) (by simp [results, Tryd.results15, go_sem, *]) rfl ?_
            exact HNo.out _ i HF1.out HE.out
          | some pl' =>
            rw [hq] at f2
            obtain ⟨rfl, f3⟩ := f2
            have HE : Hid (looksF cfB g = loopF g (N - (i + 1)) (i + 1) pl') := chid (by rw [HLk.out, hsub]; exact loop_some hq)
            have h2 := stepF_in hq HP.out
            have HP2 := chid h2.1
            have HLn2 : Hid (pl'.length = N) := chid (by rw [h2.2]; exact HLn.out)
            have HF3 := chid f3
            clear hq h2 f3
            go_wp2_with fail
            refine ⟨⟨i + 1, pl', by go_num, by omega, HE, HLn2, HP2, HF3⟩, ?_⟩
            show ((N : Int) - ((i : Int) + 1)).toNat < ((N : Int) - (i : Int)).toNat
            omega
        · have hlt' : ¬ (i : Int) < (N : Int) := by omega
          obtain rfl : i = N := by omega
          have HE : Hid (looksF cfB g = (some pl, 0)) := chid (by rw [HLk.out, Nat.sub_self]; rfl)
          have y12 := HW.out.box.cell 12 _ rfl
          have yl := HW.out.box.lt
          go_wp2_with fail
          refine bodyPost_ret (v := .tuple #[.slice (some ⟨qb, 0, none⟩) pl.length pl.length, .int .i64 0, .int .i64 0]) (by simp [results, Tryd.results15, go_sem, *]) rfl ?_
          exact HYs.out _ qb pl 0 (cbelow_on HB1.out HW.out.bel HB1.out.size) HE.out HW.out.pls (Nat.le_trans HB1.out.size hq1)
end Go.Proofs.YtigldebdljfnbaaDoor

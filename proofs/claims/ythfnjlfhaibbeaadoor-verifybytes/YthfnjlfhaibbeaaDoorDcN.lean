/- Package codec: Decode. -/
import Derived.Test.YthfnjlfhaibbeaaDoorDcL
import Derived.Defers
import Derived.Recover
namespace Go.Proofs.YthfnjlfhaibbeaaDoor
open Go.RowKit

abbrev zcL : List Value := [.int .i64 0, .int .i64 0, .int .i64 0, .int .i64 0, .int .i64 0, .int .i64 0, .slice none 0 0, .slice none 0 0, .slice none 0 0, .int .i64 0, .int .i64 0, .slice none 0 0]
/-- A program that was read: each list in new memory, from B on. -/
structure PgNew (B : Nat) (g : PgP) (u : PgV) (w : World) : Prop where
  k : OwR 2 1 (fun a : Int => [.int .i64 a]) B g.K u.k w
  wi : OwR 65 4 (fun a : WiP => wiL a) B g.wins u.wi w
  cr : OwR 68 5 (fun a : Cr => crL a) B g.crons u.cr w
  c : OwR 51 2 (fun a : Ins => inL a) B g.C u.c w
theorem PgNew.rd {B : Nat} {g : PgP} {u : PgV} {w : World} (h : PgNew B g u w) : PgRd w g u :=
  ⟨OwR.rows (k := 1) (L := fun a : Int => [.int .i64 a]) (fun _ => rfl) h.k 0, OwR.rows (k := 4) (L := fun a : WiP => wiL a) (fun _ => rfl) h.wi wi0, OwR.rows (k := 5) (L := fun a : Cr => crL a) (fun _ => rfl) h.cr cr0, OwR.rows (k := 2) (L := fun a : Ins => inL a) (fun _ => rfl) h.c in0⟩
set_option maxHeartbeats 4000000 in
set_option maxRecDepth 20000 in
theorem rprog_c (rb : Nat) (l : List UInt8) (v : Value) (w : World) (h : Rdp w rb l v) :
    Calls Tryd.prog 21 #[.pointer (some ⟨rb, 0, none⟩)] w (RdQ rb w (rProg l) (fun g x w' => ∃ u, x = pgV g u ∧ PgNew w.heap.size g u w')) := by
  have HE : Hid (∀ e w', rProg l = none → Thrown e → Turn [rb] w w' → RdQ rb w (rProg l) (fun g x w' => ∃ u, x = pgV g u ∧ PgNew w.heap.size g u w') e w') := chid (fun e w' hn he t => ⟨t, by rw [hn]; exact he⟩)
  have HO : Hid (∀ g l' x u v' w', rProg l = some (g, l') → x = pgV g u → PgNew w.heap.size g u w' → Rdp w' rb l' v' → Turn [rb] w w' → RdQ rb w (rProg l) (fun g x w' => ∃ u, x = pgV g u ∧ PgNew w.heap.size g u w') (.returned x) w') := chid (fun g l' x u v' w' hn hx hp hr t => ⟨t, by rw [hn]; exact ⟨x, v', rfl, ⟨u, hx, hp⟩, hr⟩⟩)
  have g0 : rb < w.heap.size := h.box.lt
  obtain ⟨g, hg⟩ : ∃ g, Hid (g = w.heap.size) := ⟨_, chid rfl⟩
  have BX0 := Box.new w zcL 31
  rw [← hg.out] at BX0
  have H0 := chid (h.next (bel_alloc w (.cells zcL.toArray 31)))
  have t0 : Turn [rb] w (w.alloc (.cells zcL.toArray 31)) := Turn.of_below (bel_alloc w _)
  clear h
  generalize RdQ rb w (rProg l) (fun g x w' => ∃ u, x = pgV g u ∧ PgNew w.heap.size g u w') = Post at *
  go_enter Tryd.func21, Tryd.ntmps21
  go_wp2_with fail
  have HC := chid (cut_c rb 4 (by omega) (by omega) l v _ H0.out)
  refine Calls.mono HC.out ?_
  rintro e w1 ⟨tn, hh⟩
  have t1 := tt t0 tn
  have BX1 := BX0.turn tn (by simp; have := hg.out; omega)
  clear tn t0 BX0
  cases hc : rCut 4 l with
  | none =>
    rw [hc] at hh
    obtain ⟨u, pv, rfl⟩ := hh
    have hn : rProg l = none := by
      have hm : rMark l = none := bind_none hc
      exact bind_none hm
    go_wp2_with fail
    exact ⟨rfl, HE.out _ _ hn ⟨u, pv, rfl⟩ t1⟩
  | some p =>
  obtain ⟨a, l1⟩ := p
  rw [hc] at hh
  obtain ⟨x, v1, rfl, hx, h1⟩ := hh
  have hs := by_str hx
  obtain ⟨xa, xc, hxv, -, -⟩ := RowsK.shape hx
  subst hxv
  clear hx HC
  by_cases hm : a = [99, 112, 115, 49]
  · have hn : rMark l = some ((), l1) := by
      unfold rMark
      rw [bind_fwd hc, if_pos hm]
      rfl
    have HH := chid (show rProg l = _ from bind_fwd hn)
    have hW := chid (want_t w1)
    subst hm
    have hs : (convert 22 9 (.slice xa 4 xc)).run Tryd.prog w1 = .ok (.string ⟨#[99, 112, 115, 49]⟩) w1 := hs
    have H1 := chid h1
    clear hc hn h1
    go_wp2_with fail
    refine Calls.mono hW.out ?_
    rintro e w2 ⟨rfl, rfl⟩
    go_wp2_with fail
    have he1 := HH
    have g1 : g < w2.heap.size := BX1.lt
    have HC := chid (four_c rb l1 v1 w2 H1.out)
    refine Calls.mono HC.out ?_
    rintro e w3 ⟨tn, hh⟩
    cases hc1 : (rFour) l1 with
    | none =>
      rw [hc1] at hh
      obtain ⟨u, pv, rfl⟩ := hh
      have hn := he1.out.trans (bind_none hc1)
      go_wp2_with fail
      exact ⟨rfl, HE.out _ _ hn ⟨u, pv, rfl⟩ (tt t1 tn)⟩
    | some p =>
    obtain ⟨a2, l2⟩ := p
    rw [hc1] at hh
    obtain ⟨x2, v2, rfl, hx2, h2⟩ := hh
    have H2 := chid h2
    have t2 := tt t1 tn
    have he2 := chid (he1.out.trans (bind_fwd hc1))
    have BX2 := BX1.turn tn (by simp; have := hg.out; omega)
    have g2 : g < w3.heap.size := BX2.lt
    subst hx2
    clear h2 tn HC BX1 he1 hc1
    go_wp2_with fail
    have HC := chid (four_c rb l2 v2 w3 H2.out)
    refine Calls.mono HC.out ?_
    rintro e w4 ⟨tn, hh⟩
    cases hc2 : (rFour) l2 with
    | none =>
      rw [hc2] at hh
      obtain ⟨u, pv, rfl⟩ := hh
      have hn := he2.out.trans (bind_none hc2)
      go_wp2_with fail
      exact ⟨rfl, HE.out _ _ hn ⟨u, pv, rfl⟩ (tt t2 tn)⟩
    | some p =>
    obtain ⟨a3, l3⟩ := p
    rw [hc2] at hh
    obtain ⟨x3, v3, rfl, hx3, h3⟩ := hh
    have H3 := chid h3
    have t3 := tt t2 tn
    have he3 := chid (he2.out.trans (bind_fwd hc2))
    have BX3 := BX2.turn tn (by simp; have := hg.out; omega)
    have g3 : g < w4.heap.size := BX3.lt
    subst hx3
    clear h3 tn HC BX2 he2 hc2
    go_wp2_with fail
    have HC := chid (four_c rb l3 v3 w4 H3.out)
    refine Calls.mono HC.out ?_
    rintro e w5 ⟨tn, hh⟩
    cases hc3 : (rFour) l3 with
    | none =>
      rw [hc3] at hh
      obtain ⟨u, pv, rfl⟩ := hh
      have hn := he3.out.trans (bind_none hc3)
      go_wp2_with fail
      exact ⟨rfl, HE.out _ _ hn ⟨u, pv, rfl⟩ (tt t3 tn)⟩
    | some p =>
    obtain ⟨a4, l4⟩ := p
    rw [hc3] at hh
    obtain ⟨x4, v4, rfl, hx4, h4⟩ := hh
    have H4 := chid h4
    have t4 := tt t3 tn
    have he4 := chid (he3.out.trans (bind_fwd hc3))
    have BX4 := BX3.turn tn (by simp; have := hg.out; omega)
    have g4 : g < w5.heap.size := BX4.lt
    subst hx4
    clear h4 tn HC BX3 he3 hc3
    go_wp2_with fail
    have HC := chid (rrules_c rb l4 v4 w5 H4.out)
    refine Calls.mono HC.out ?_
    rintro e w6 ⟨tn, hh⟩
    cases hc4 : (rRules) l4 with
    | none =>
      rw [hc4] at hh
      obtain ⟨u, pv, rfl⟩ := hh
      have hn := he4.out.trans (bind_none hc4)
      go_wp2_with fail
      exact ⟨rfl, HE.out _ _ hn ⟨u, pv, rfl⟩ (tt t4 tn)⟩
    | some p =>
    obtain ⟨a5, l5⟩ := p
    rw [hc4] at hh
    obtain ⟨x5, v5, rfl, hx5, h5⟩ := hh
    have H5 := chid h5
    have t5 := tt t4 tn
    have he5 := chid (he4.out.trans (bind_fwd hc4))
    have BX5 := BX4.turn tn (by simp; have := hg.out; omega)
    have g5 : g < w6.heap.size := BX5.lt
    subst hx5
    clear h5 tn HC BX4 he4 hc4
    go_wp2_with fail
    have HC := chid (listK_c rb 16384 (by omega) l5 v5 w6 H5.out)
    refine Calls.mono HC.out ?_
    rintro e w7 ⟨tn, hh⟩
    cases hc5 : (rList 16384 rEight) l5 with
    | none =>
      rw [hc5] at hh
      obtain ⟨u, pv, rfl⟩ := hh
      have hn := he5.out.trans (bind_none hc5)
      go_wp2_with fail
      exact ⟨rfl, HE.out _ _ hn ⟨u, pv, rfl⟩ (tt t5 tn)⟩
    | some p =>
    obtain ⟨a6, l6⟩ := p
    rw [hc5] at hh
    obtain ⟨x6, v6, rfl, hx6, h6⟩ := hh
    have H6 := chid h6
    have t6 := tt t5 tn
    have he6 := chid (he5.out.trans (bind_fwd hc5))
    have BX6 := BX5.turn tn (by simp; have := hg.out; omega)
    have g6 : g < w7.heap.size := BX6.lt
    obtain ⟨laK, lcK, hvK⟩ := own_shape hx6
    subst hvK
    have hOK : Hid (World.ownsRow w7 (w.heap.size + 1) 2 1 (.slice laK a6.length lcK) a6.length (flR (fun a : Int => [.int .i64 a]) a6)) := chid (own_low _ hx6 (by have := hg.out; omega))
    clear h6 tn HC BX5 he5 hc5 hx6
    go_wp2_with fail
    have HC := chid (listW_c rb 256 (by omega) l6 v6 w7 H6.out)
    refine Calls.mono HC.out ?_
    rintro e w8 ⟨tn, hh⟩
    cases hc6 : (rList 256 rWin) l6 with
    | none =>
      rw [hc6] at hh
      obtain ⟨u, pv, rfl⟩ := hh
      have hn := he6.out.trans (bind_none hc6)
      go_wp2_with fail
      exact ⟨rfl, HE.out _ _ hn ⟨u, pv, rfl⟩ (tt t6 tn)⟩
    | some p =>
    obtain ⟨a7, l7⟩ := p
    rw [hc6] at hh
    obtain ⟨x7, v7, rfl, hx7, h7⟩ := hh
    have H7 := chid h7
    have t7 := tt t6 tn
    have he7 := chid (he6.out.trans (bind_fwd hc6))
    have BX7 := BX6.turn tn (by simp; have := hg.out; omega)
    have g7 : g < w8.heap.size := BX7.lt
    have hOK := chid (own_rd hOK.out tn (by omega))
    obtain ⟨laW, lcW, hvW⟩ := own_shape hx7
    subst hvW
    have hOW : Hid (World.ownsRow w8 (w.heap.size + 1) 65 4 (.slice laW a7.length lcW) a7.length (flR (fun a : WiP => wiL a) a7)) := chid (own_low _ hx7 (by have := hg.out; omega))
    clear h7 tn HC BX6 he6 hc6 hx7
    go_wp2_with fail
    have HC := chid (listC_c rb 256 (by omega) l7 v7 w8 H7.out)
    refine Calls.mono HC.out ?_
    rintro e w9 ⟨tn, hh⟩
    cases hc7 : (rList 256 rCron) l7 with
    | none =>
      rw [hc7] at hh
      obtain ⟨u, pv, rfl⟩ := hh
      have hn := he7.out.trans (bind_none hc7)
      go_wp2_with fail
      exact ⟨rfl, HE.out _ _ hn ⟨u, pv, rfl⟩ (tt t7 tn)⟩
    | some p =>
    obtain ⟨a8, l8⟩ := p
    rw [hc7] at hh
    obtain ⟨x8, v8, rfl, hx8, h8⟩ := hh
    have H8 := chid h8
    have t8 := tt t7 tn
    have he8 := chid (he7.out.trans (bind_fwd hc7))
    have BX8 := BX7.turn tn (by simp; have := hg.out; omega)
    have g8 : g < w9.heap.size := BX8.lt
    have hOK := chid (own_rd hOK.out tn (by omega))
    have hOW := chid (own_rd hOW.out tn (by omega))
    obtain ⟨laC, lcC, hvC⟩ := own_shape hx8
    subst hvC
    have hOC : Hid (World.ownsRow w9 (w.heap.size + 1) 68 5 (.slice laC a8.length lcC) a8.length (flR (fun a : Cr => crL a) a8)) := chid (own_low _ hx8 (by have := hg.out; omega))
    clear h8 tn HC BX7 he7 hc7 hx8
    go_wp2_with fail
    have HC := chid (listI_c rb 16384 (by omega) l8 v8 w9 H8.out)
    refine Calls.mono HC.out ?_
    rintro e w10 ⟨tn, hh⟩
    cases hc8 : (rList 16384 rIns) l8 with
    | none =>
      rw [hc8] at hh
      obtain ⟨u, pv, rfl⟩ := hh
      have hn := he8.out.trans (bind_none hc8)
      go_wp2_with fail
      exact ⟨rfl, HE.out _ _ hn ⟨u, pv, rfl⟩ (tt t8 tn)⟩
    | some p =>
    obtain ⟨a9, l9⟩ := p
    rw [hc8] at hh
    obtain ⟨x9, v9, rfl, hx9, h9⟩ := hh
    have H9 := chid h9
    have t9 := tt t8 tn
    have he9 := chid (he8.out.trans (bind_fwd hc8))
    have BX9 := BX8.turn tn (by simp; have := hg.out; omega)
    have g9 : g < w10.heap.size := BX9.lt
    have hOK := chid (own_rd hOK.out tn (by omega))
    have hOW := chid (own_rd hOW.out tn (by omega))
    have hOC := chid (own_rd hOC.out tn (by omega))
    obtain ⟨laI, lcI, hvI⟩ := own_shape hx9
    subst hvI
    have hOI : Hid (World.ownsRow w10 (w.heap.size + 1) 51 2 (.slice laI a9.length lcI) a9.length (flR (fun a : Ins => inL a) a9)) := chid (own_low _ hx9 (by have := hg.out; omega))
    clear h9 tn HC BX8 he8 hc8 hx9
    have al := bel_alloc w10 (.cells (pgL (⟨a2, a5, a6, a7, a8, a3, a4, a9⟩ : PgP) (⟨.slice laK a6.length lcK, .slice laW a7.length lcW, .slice laC a8.length lcC, .slice laI a9.length lcI⟩ : PgV)).toArray 31)
    have R9 := H9.out.next al
    obtain ⟨ra9, rc9, hv9, -, -⟩ := RowsK.shape R9.rest
    subst hv9
    have r0 := R9.box.cell 0 _ rfl
    have rl := R9.box.lt
    rw [← hg.out]
    by_cases hz : l9 = []
    · have hn : rProg l = some ((⟨a2, a5, a6, a7, a8, a3, a4, a9⟩ : PgP), []) := by
        rw [he9.out]
        unfold rEnd
        rw [if_pos hz]
      subst hz
      have hW3 := chid (want_t (w10.alloc (.cells (pgL (⟨a2, a5, a6, a7, a8, a3, a4, a9⟩ : PgP) (⟨.slice laK a6.length lcK, .slice laW a7.length lcW, .slice laC a8.length lcC, .slice laI a9.length lcI⟩ : PgV)).toArray 31)))
      have BG := BX9.next al
      have YP := Box.new w10 (pgL (⟨a2, a5, a6, a7, a8, a3, a4, a9⟩ : PgP) (⟨.slice laK a6.length lcK, .slice laW a7.length lcW, .slice laC a8.length lcC, .slice laI a9.length lcI⟩ : PgV)) 31
      have hOK := chid (own_turn hOK.out (S := []) (Turn.of_below al) (fun _ _ hm => by cases hm))
      have hOW := chid (own_turn hOW.out (S := []) (Turn.of_below al) (fun _ _ hm => by cases hm))
      have hOC := chid (own_turn hOC.out (S := []) (Turn.of_below al) (fun _ _ hm => by cases hm))
      have hOI := chid (own_turn hOI.out (S := []) (Turn.of_below al) (fun _ _ hm => by cases hm))
      have tE := t9.andBelow al
      have HR9 := chid R9
      clear R9 al H9
      go_wp2_with fail
      refine Calls.mono hW3.out ?_
      rintro e w11 ⟨rfl, rfl⟩
      generalize hWW : w10.alloc _ = W at *
      clear hWW
      have p0 := YP.cell 0 _ rfl
      have z0 := BG.cell 0 _ rfl
      have y0 := BG.free 0 (by simp)
      have p1 := YP.cell 1 _ rfl
      have z1 := BG.cell 1 _ rfl
      have y1 := BG.free 1 (by simp)
      have p2 := YP.cell 2 _ rfl
      have z2 := BG.cell 2 _ rfl
      have y2 := BG.free 2 (by simp)
      have p3 := YP.cell 3 _ rfl
      have z3 := BG.cell 3 _ rfl
      have y3 := BG.free 3 (by simp)
      have p4 := YP.cell 4 _ rfl
      have z4 := BG.cell 4 _ rfl
      have y4 := BG.free 4 (by simp)
      have p5 := YP.cell 5 _ rfl
      have z5 := BG.cell 5 _ rfl
      have y5 := BG.free 5 (by simp)
      have p6 := YP.cell 6 _ rfl
      have z6 := BG.cell 6 _ rfl
      have y6 := BG.free 6 (by simp)
      have p7 := YP.cell 7 _ rfl
      have z7 := BG.cell 7 _ rfl
      have y7 := BG.free 7 (by simp)
      have p8 := YP.cell 8 _ rfl
      have z8 := BG.cell 8 _ rfl
      have y8 := BG.free 8 (by simp)
      have p9 := YP.cell 9 _ rfl
      have z9 := BG.cell 9 _ rfl
      have y9 := BG.free 9 (by simp)
      have p10 := YP.cell 10 _ rfl
      have z10 := BG.cell 10 _ rfl
      have y10 := BG.free 10 (by simp)
      have p11 := YP.cell 11 _ rfl
      have z11 := BG.cell 11 _ rfl
      have y11 := BG.free 11 (by simp)
      have pl := YP.lt
      have gl := BG.lt
      have TG : Turn [g] W ((((((((((((W.setCell ⟨g, 0, none⟩ (.int .i64 a2)).setCell ⟨g, 1, none⟩ (.int .i64 a5.mn)).setCell ⟨g, 2, none⟩ (.int .i64 a5.mx)).setCell ⟨g, 3, none⟩ (.int .i64 a5.st)).setCell ⟨g, 4, none⟩ (.int .i64 a5.up)).setCell ⟨g, 5, none⟩ (.int .i64 a5.dn)).setCell ⟨g, 6, none⟩ (.slice laK a6.length lcK)).setCell ⟨g, 7, none⟩ (.slice laW a7.length lcW)).setCell ⟨g, 8, none⟩ (.slice laC a8.length lcC)).setCell ⟨g, 9, none⟩ (.int .i64 a3)).setCell ⟨g, 10, none⟩ (.int .i64 a4)).setCell ⟨g, 11, none⟩ (.slice laI a9.length lcI)) := (Turn.andSet (Turn.andSet (Turn.andSet (Turn.andSet (Turn.andSet (Turn.andSet (Turn.andSet (Turn.andSet (Turn.andSet (Turn.andSet (Turn.andSet (Turn.andSet (Turn.refl [g] W) ⟨g, 0, none⟩ (.int .i64 a2) (.inl (by simp))) ⟨g, 1, none⟩ (.int .i64 a5.mn) (.inl (by simp))) ⟨g, 2, none⟩ (.int .i64 a5.mx) (.inl (by simp))) ⟨g, 3, none⟩ (.int .i64 a5.st) (.inl (by simp))) ⟨g, 4, none⟩ (.int .i64 a5.up) (.inl (by simp))) ⟨g, 5, none⟩ (.int .i64 a5.dn) (.inl (by simp))) ⟨g, 6, none⟩ (.slice laK a6.length lcK) (.inl (by simp))) ⟨g, 7, none⟩ (.slice laW a7.length lcW) (.inl (by simp))) ⟨g, 8, none⟩ (.slice laC a8.length lcC) (.inl (by simp))) ⟨g, 9, none⟩ (.int .i64 a3) (.inl (by simp))) ⟨g, 10, none⟩ (.int .i64 a4) (.inl (by simp))) ⟨g, 11, none⟩ (.slice laI a9.length lcI) (.inl (by simp)))
      have BE : Box ((((((((((((W.setCell ⟨g, 0, none⟩ (.int .i64 a2)).setCell ⟨g, 1, none⟩ (.int .i64 a5.mn)).setCell ⟨g, 2, none⟩ (.int .i64 a5.mx)).setCell ⟨g, 3, none⟩ (.int .i64 a5.st)).setCell ⟨g, 4, none⟩ (.int .i64 a5.up)).setCell ⟨g, 5, none⟩ (.int .i64 a5.dn)).setCell ⟨g, 6, none⟩ (.slice laK a6.length lcK)).setCell ⟨g, 7, none⟩ (.slice laW a7.length lcW)).setCell ⟨g, 8, none⟩ (.slice laC a8.length lcC)).setCell ⟨g, 9, none⟩ (.int .i64 a3)).setCell ⟨g, 10, none⟩ (.int .i64 a4)).setCell ⟨g, 11, none⟩ (.slice laI a9.length lcI)) g [.int .i64 a2, .int .i64 a5.mn, .int .i64 a5.mx, .int .i64 a5.st, .int .i64 a5.up, .int .i64 a5.dn, .slice laK a6.length lcK, .slice laW a7.length lcW, .slice laC a8.length lcC, .int .i64 a3, .int .i64 a4, .slice laI a9.length lcI] := ((((((((((((BG.set 0 (by simp) (.int .i64 a2)).set 1 (by simp) (.int .i64 a5.mn)).set 2 (by simp) (.int .i64 a5.mx)).set 3 (by simp) (.int .i64 a5.st)).set 4 (by simp) (.int .i64 a5.up)).set 5 (by simp) (.int .i64 a5.dn)).set 6 (by simp) (.slice laK a6.length lcK)).set 7 (by simp) (.slice laW a7.length lcW)).set 8 (by simp) (.slice laC a8.length lcC)).set 9 (by simp) (.int .i64 a3)).set 10 (by simp) (.int .i64 a4)).set 11 (by simp) (.slice laI a9.length lcI))
      have HF := chid (HO.out (⟨a2, a5, a6, a7, a8, a3, a4, a9⟩ : PgP) _ (pgV (⟨a2, a5, a6, a7, a8, a3, a4, a9⟩ : PgP) (⟨.slice laK a6.length lcK, .slice laW a7.length lcW, .slice laC a8.length lcC, .slice laI a9.length lcI⟩ : PgV)) (⟨.slice laK a6.length lcK, .slice laW a7.length lcW, .slice laC a8.length lcC, .slice laI a9.length lcI⟩ : PgV) _ _ hn rfl ⟨own_low _ (own_turn hOK.out TG (fun b hb => by have := (hOK.out.lt b hb).1; have := hg.out; simp; omega)) (Nat.le_succ _), own_low _ (own_turn hOW.out TG (fun b hb => by have := (hOW.out.lt b hb).1; have := hg.out; simp; omega)) (Nat.le_succ _), own_low _ (own_turn hOC.out TG (fun b hb => by have := (hOC.out.lt b hb).1; have := hg.out; simp; omega)) (Nat.le_succ _), own_low _ (own_turn hOI.out TG (fun b hb => by have := (hOI.out.lt b hb).1; have := hg.out; simp; omega)) (Nat.le_succ _)⟩ (Rdp.set (Rdp.set (Rdp.set (Rdp.set (Rdp.set (Rdp.set (Rdp.set (Rdp.set (Rdp.set (Rdp.set (Rdp.set (Rdp.set HR9.out (g := g) (j := 0) (x := .int .i64 a2) (by have := hg.out; omega)) (g := g) (j := 1) (x := .int .i64 a5.mn) (by have := hg.out; omega)) (g := g) (j := 2) (x := .int .i64 a5.mx) (by have := hg.out; omega)) (g := g) (j := 3) (x := .int .i64 a5.st) (by have := hg.out; omega)) (g := g) (j := 4) (x := .int .i64 a5.up) (by have := hg.out; omega)) (g := g) (j := 5) (x := .int .i64 a5.dn) (by have := hg.out; omega)) (g := g) (j := 6) (x := .slice laK a6.length lcK) (by have := hg.out; omega)) (g := g) (j := 7) (x := .slice laW a7.length lcW) (by have := hg.out; omega)) (g := g) (j := 8) (x := .slice laC a8.length lcC) (by have := hg.out; omega)) (g := g) (j := 9) (x := .int .i64 a3) (by have := hg.out; omega)) (g := g) (j := 10) (x := .int .i64 a4) (by have := hg.out; omega)) (g := g) (j := 11) (x := .slice laI a9.length lcI) (by have := hg.out; omega)) (Turn.andSet (Turn.andSet (Turn.andSet (Turn.andSet (Turn.andSet (Turn.andSet (Turn.andSet (Turn.andSet (Turn.andSet (Turn.andSet (Turn.andSet (Turn.andSet tE ⟨g, 0, none⟩ (.int .i64 a2) (.inr (by have := hg.out; show w.heap.size ≤ g; omega))) ⟨g, 1, none⟩ (.int .i64 a5.mn) (.inr (by have := hg.out; show w.heap.size ≤ g; omega))) ⟨g, 2, none⟩ (.int .i64 a5.mx) (.inr (by have := hg.out; show w.heap.size ≤ g; omega))) ⟨g, 3, none⟩ (.int .i64 a5.st) (.inr (by have := hg.out; show w.heap.size ≤ g; omega))) ⟨g, 4, none⟩ (.int .i64 a5.up) (.inr (by have := hg.out; show w.heap.size ≤ g; omega))) ⟨g, 5, none⟩ (.int .i64 a5.dn) (.inr (by have := hg.out; show w.heap.size ≤ g; omega))) ⟨g, 6, none⟩ (.slice laK a6.length lcK) (.inr (by have := hg.out; show w.heap.size ≤ g; omega))) ⟨g, 7, none⟩ (.slice laW a7.length lcW) (.inr (by have := hg.out; show w.heap.size ≤ g; omega))) ⟨g, 8, none⟩ (.slice laC a8.length lcC) (.inr (by have := hg.out; show w.heap.size ≤ g; omega))) ⟨g, 9, none⟩ (.int .i64 a3) (.inr (by have := hg.out; show w.heap.size ≤ g; omega))) ⟨g, 10, none⟩ (.int .i64 a4) (.inr (by have := hg.out; show w.heap.size ≤ g; omega))) ⟨g, 11, none⟩ (.slice laI a9.length lcI) (.inr (by have := hg.out; show w.heap.size ≤ g; omega))))
      have u0 := BE.cell 0 _ rfl
      have u1 := BE.cell 1 _ rfl
      have u2 := BE.cell 2 _ rfl
      have u3 := BE.cell 3 _ rfl
      have u4 := BE.cell 4 _ rfl
      have u5 := BE.cell 5 _ rfl
      have u6 := BE.cell 6 _ rfl
      have u7 := BE.cell 7 _ rfl
      have u8 := BE.cell 8 _ rfl
      have u9 := BE.cell 9 _ rfl
      have u10 := BE.cell 10 _ rfl
      have u11 := BE.cell 11 _ rfl
      clear BE TG YP BG tE r0 rl
      go_wp2_with fail
      refine bodyPost_ret (v := pgV (⟨a2, a5, a6, a7, a8, a3, a4, a9⟩ : PgP) (⟨.slice laK a6.length lcK, .slice laW a7.length lcW, .slice laC a8.length lcC, .slice laI a9.length lcI⟩ : PgV)) (by simp [results, Tryd.results21, go_sem, *]) rfl HF.out
    · have hn : rProg l = none := by
        rw [he9.out]
        unfold rEnd
        rw [if_neg hz]
      have hlz : l9.length ≠ 0 := fun e => hz (List.eq_nil_of_length_eq_zero e)
      have hW3 := want_f (w10.alloc (.cells (pgL (⟨a2, a5, a6, a7, a8, a3, a4, a9⟩ : PgP) (⟨.slice laK a6.length lcK, .slice laW a7.length lcW, .slice laC a8.length lcC, .slice laI a9.length lcI⟩ : PgV)).toArray 31)) R9.err
      rw [show false = decide ((l9.length : Int) = 0) by simp; exact hz] at hW3
      have hW3 := chid hW3
      have tE := t9.andBelow al
      clear R9 al H9 BX9
      go_wp2_with fail
      refine Calls.mono hW3.out ?_
      rintro e w11 ⟨⟨u, pv, rfl⟩, rfl⟩
      go_wp2_with fail
      exact ⟨rfl, HE.out _ _ hn ⟨u, pv, rfl⟩ tE⟩
  · have hn : rProg l = none := by
      have hm : rMark l = none := by
        unfold rMark
        rw [bind_fwd hc, if_neg hm]
      exact bind_none hm
    have hW := want_f w1 h1.err
    rw [show false = (a == [99, 112, 115, 49]) by rw [eq_comm, beq_eq_false_iff_ne]; exact hm] at hW
    have hW := chid hW
    clear h1 hc
    go_wp2_with fail
    refine Calls.mono hW.out ?_
    rintro e w2 ⟨⟨u, pv, rfl⟩, rfl⟩
    go_wp2_with fail
    exact ⟨rfl, HE.out _ _ hn ⟨u, pv, rfl⟩ t1⟩
end Go.Proofs.YthfnjlfhaibbeaaDoor

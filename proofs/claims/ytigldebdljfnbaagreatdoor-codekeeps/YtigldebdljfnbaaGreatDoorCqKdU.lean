/- Package code: Emit. -/
import Derived.Test.YtigldebdljfnbaaGreatDoorCqNbP
namespace Go.Proofs.YtigldebdljfnbaaGreatDoor
open Go.RowKit

set_option maxHeartbeats 60000000 in
set_option maxRecDepth 20000 in
theorem emit_c (q : Co → Co → Bool) (hq : ∀ a b, q a b = true ↔ a = b) (p : PlP) (v : PlV) (w : World) (hs : PlAt w p v) (hF : FldAt w) (hP : PoAt w w.heap.size) (hw : p.wins.length * 32 ≤ 140737488355328) (hc : p.crons.length * 40 ≤ 140737488355328) (hm : C64 p.mets.length) :
    Calls Tryz.prog 7 #[plV p v] w fun e w' => ∃ u, e = .returned (.tuple #[pgV (emitF q p).1 u, .int .i64 (emitF q p).2]) ∧ PgAt w' w.heap.size (emitF q p).1 u ∧ Below w.heap.size w w' := by
  have HFo := chid (fun W (hW : Below w.heap.size w W) => cFormed_c q hq p v W (hF.later hW) (hs.next hW))
  have HPl := chid hs
  have HPo := chid hP
  have HLn := chid (And.intro hw (And.intro hc hm))
  obtain ⟨a1, c1, a2, c2, a3, c3, a4, c4, a5, c5, rfl, g1, g2, g3, g4⟩ := hs.shapes
  obtain ⟨Y0, Y1, Y2⟩ := two_boxes w 32 38 (plL p ⟨.slice a1 p.mets.length c1, .slice a2 p.wins.length c2, .slice a3 p.crons.length c3, .slice a4 p.gs.length c4, .slice a5 p.fin.parts.length c5⟩) (pgL pg0 ⟨.slice none 0 0, .slice none 0 0, .slice none 0 0, .slice none 0 0⟩)
  have HY0 := chid Y0
  have HY1 := chid Y1
  have B0 := chid Y2
  clear hs Y0 Y1 Y2 g1 g2 g3 g4 hq hF hP hw hc hm
  cases hf : formedP q p with
  | false =>
    have hr : Hid (emitF q p = (pg0, 1)) := chid (by unfold emitF; rw [if_pos hf])
    rw [hr.out]
    rw [hf] at HFo
    clear hf
    have x0 := HY0.out.cell 0 _ rfl
    have x1 := HY0.out.cell 1 _ rfl
    have x2 := HY0.out.cell 2 _ rfl
    have x3 := HY0.out.cell 3 _ rfl
    have x4 := HY0.out.cell 4 _ rfl
    have x5 := HY0.out.cell 5 _ rfl
    have x6 := HY0.out.cell 6 _ rfl
    have x7 := HY0.out.cell 7 _ rfl
    have x8 := HY0.out.cell 8 _ rfl
    have x9 := HY0.out.cell 9 _ rfl
    have x10 := HY0.out.cell 10 _ rfl
    have x11 := HY0.out.cell 11 _ rfl
    have x12 := HY0.out.cell 12 _ rfl
    have x13 := HY0.out.cell 13 _ rfl
    have xl := HY0.out.lt
    go_enter Tryz.func7, Tryz.ntmps7
    go_wp2_with fail
    refine Calls.mono (HFo.out _ B0.out) ?_
    rintro e w1 ⟨rfl, b1⟩
    have B1 := chid (cbelow_on B0.out b1 B0.out.size)
    replace HY1 := chid (HY1.out.next b1)
    clear b1 HFo HY0 x0 x1 x2 x3 x4 x5 x6 x7 x8 x9 x10 x11 x12 x13 xl
    have y0 := HY1.out.cell 0 _ rfl
    have y1 := HY1.out.cell 1 _ rfl
    have y2 := HY1.out.cell 2 _ rfl
    have y3 := HY1.out.cell 3 _ rfl
    have y4 := HY1.out.cell 4 _ rfl
    have y5 := HY1.out.cell 5 _ rfl
    have y6 := HY1.out.cell 6 _ rfl
    have y7 := HY1.out.cell 7 _ rfl
    have y8 := HY1.out.cell 8 _ rfl
    have y9 := HY1.out.cell 9 _ rfl
    have y10 := HY1.out.cell 10 _ rfl
    have y11 := HY1.out.cell 11 _ rfl
    have yl := HY1.out.lt
    have g0 := HY1.out.free 0 (by simp)
    have g1 := HY1.out.free 1 (by simp)
    have g2 := HY1.out.free 2 (by simp)
    have g3 := HY1.out.free 3 (by simp)
    have g4 := HY1.out.free 4 (by simp)
    have g5 := HY1.out.free 5 (by simp)
    have g6 := HY1.out.free 6 (by simp)
    have g7 := HY1.out.free 7 (by simp)
    have g8 := HY1.out.free 8 (by simp)
    have g9 := HY1.out.free 9 (by simp)
    have g10 := HY1.out.free 10 (by simp)
    have g11 := HY1.out.free 11 (by simp)
    go_wp2_with fail
    refine bodyPost_ret (v := .tuple #[pgV pg0 ⟨.slice none 0 0, .slice none 0 0, .slice none 0 0, .slice none 0 0⟩, .int .i64 1]) (by simp [results, Tryz.results7, go_sem, pg0, *]) rfl ?_
    exact ⟨_, rfl, pg0_at _ _, below_one B1.out (set12_turn w1 _ _ _ _ _ _ _ _ _ _ _ _ _) (by omega)⟩
  | true =>
    obtain ⟨R, hR⟩ : ∃ R, Hid (R = emitF q p) := ⟨_, chid rfl⟩
    have HR : Hid (R = if largeB (progF p) = true then (pg0, 14) else (progF p, 0)) := chid (by rw [hR.out]; unfold emitF; rw [if_neg (by rw [hf]; decide)])
    rw [← hR.out]
    have HOk := chid (foldable hf)
    have HFw : Hid (gN p.gs + cnodes p.fin ≤ 4096) := chid (by
      rw [← plord_gN]
      unfold formedP at hf
      simp only [Bool.and_eq_true] at hf
      exact of_decide_eq_true hf.1.1.1.1.2)
    rw [hf] at HFo
    clear hf hR
    have x0 := HY0.out.cell 0 _ rfl
    have x1 := HY0.out.cell 1 _ rfl
    have x2 := HY0.out.cell 2 _ rfl
    have x3 := HY0.out.cell 3 _ rfl
    have x4 := HY0.out.cell 4 _ rfl
    have x5 := HY0.out.cell 5 _ rfl
    have x6 := HY0.out.cell 6 _ rfl
    have x7 := HY0.out.cell 7 _ rfl
    have x8 := HY0.out.cell 8 _ rfl
    have x9 := HY0.out.cell 9 _ rfl
    have x10 := HY0.out.cell 10 _ rfl
    have x11 := HY0.out.cell 11 _ rfl
    have x12 := HY0.out.cell 12 _ rfl
    have x13 := HY0.out.cell 13 _ rfl
    have xl := HY0.out.lt
    go_enter Tryz.func7, Tryz.ntmps7
    go_wp2_with fail
    refine Calls.mono (HFo.out _ B0.out) ?_
    rintro e w1 ⟨rfl, b1⟩
    have B1 := chid (cbelow_on B0.out b1 B0.out.size)
    replace HY0 := chid (HY0.out.next b1)
    replace HY1 := chid (HY1.out.next b1)
    clear b1 HFo B0 x0 x1 x2 x3 x4 x5 x6 x7 x8 x9 x10 x11 x12 x13 xl
    have ba := (Below.refl w1.heap.size w1).alloc (Nat.le_refl _) (.cells #[.slice none 0 0, .slice none 0 0] 53)
    have B2 := chid (cbelow_on B1.out ba B1.out.size)
    have Y3 := HY0.out.next ba
    have x0 := Y3.cell 0 _ rfl
    have x1 := Y3.cell 1 _ rfl
    have x2 := Y3.cell 2 _ rfl
    have x3 := Y3.cell 3 _ rfl
    have x4 := Y3.cell 4 _ rfl
    have x5 := Y3.cell 5 _ rfl
    have x6 := Y3.cell 6 _ rfl
    have x7 := Y3.cell 7 _ rfl
    have x8 := Y3.cell 8 _ rfl
    have x9 := Y3.cell 9 _ rfl
    have x10 := Y3.cell 10 _ rfl
    have x11 := Y3.cell 11 _ rfl
    have x12 := Y3.cell 12 _ rfl
    have x13 := Y3.cell 13 _ rfl
    have xl := Y3.lt
    have hlb : Hid (w.heap.size ≤ w1.heap.size) := chid B1.out.size
    have hlb1 : Hid (w.heap.size + 1 < w1.heap.size) := chid HY1.out.lt
    have HB2 := chid (bd_new w1)
    have HY0' := chid Y3
    have HY1' := chid (HY1.out.next ba)
    have HKp := chid (kplan_c p _ w HPl.out w1.heap.size [] [] _ _ _ B2.out hlb.out HB2.out ⟨Nat.lt_of_lt_of_le HPo.out.lt hlb.out, Nat.lt_of_lt_of_le HPo.out.lt B2.out.size, (HPo.out.next B2.out).at'⟩ (fun g hg => ⟨(HOk.out.1 g hg).1.so, (HOk.out.1 g hg).2.so⟩) HOk.out.2.so (by have := HFw.out; simp only [List.length_nil]; omega) (by have := HFw.out; simp only [List.length_nil]; omega))
    clear ba Y3 HY0 HY1
    go_wp2_with fail
    refine Calls.mono HKp.out ?_
    rintro e w3 ⟨rfl, vc, vk, hbd, t3, hft⟩
    simp only [nil_cat] at hbd
    obtain ⟨D, hD⟩ : ∃ D, Hid (D = (planM p.gs p.fin []).1) := ⟨_, chid rfl⟩
    obtain ⟨L, hL⟩ : ∃ L, Hid (L = (planM p.gs p.fin []).2) := ⟨_, chid rfl⟩
    rw [← hD.out, ← hL.out] at hbd
    obtain ⟨ca, cc, rfl⟩ := own_shape hbd.code
    obtain ⟨ka, kc, rfl⟩ := own_shape hbd.cons
    have hft0 : ∀ k, k ∈ foot w1.heap.size (.slice none 0 0) (.slice none 0 0) → k = w1.heap.size := fun k hm => by
      rcases foot_mem.1 hm with h | h | h
      · exact h
      · cases h
      · cases h
    have HB3 := chid (B2.out.trans (t3.below (fun k hk => by rw [hft0 k hk]; exact hlb.out) B2.out.size))
    have Y3 := HY0'.out.turn t3 (fun hm => by have := hft0 _ hm; have := hlb1.out; omega)
    have HY3 := chid (HY1'.out.turn t3 (fun hm => by have := hft0 _ hm; have := hlb1.out; omega))
    have x0 := Y3.cell 0 _ rfl
    have x1 := Y3.cell 1 _ rfl
    have x2 := Y3.cell 2 _ rfl
    have x3 := Y3.cell 3 _ rfl
    have x4 := Y3.cell 4 _ rfl
    have x5 := Y3.cell 5 _ rfl
    have x6 := Y3.cell 6 _ rfl
    have x7 := Y3.cell 7 _ rfl
    have x8 := Y3.cell 8 _ rfl
    have x9 := Y3.cell 9 _ rfl
    have x10 := Y3.cell 10 _ rfl
    have x11 := Y3.cell 11 _ rfl
    have x12 := Y3.cell 12 _ rfl
    have x13 := Y3.cell 13 _ rfl
    have xl := Y3.lt
    have d0 := hbd.box.cell 0 _ rfl
    have d1 := hbd.box.cell 1 _ rfl
    have dl := hbd.box.lt
    have HCC := chid (own_low (w.heap.size + 2) hbd.code (by have := hlb1.out; omega))
    have HCK := chid (own_low (w.heap.size + 2) hbd.cons (by have := hlb1.out; omega))
    have HCw := chid (fun W (hW : Below w.heap.size w W) => cloneWi_c p.wins HLn.out.1 _ W (RowsK.next HPl.out.wi hW))
    have HCc := chid (fun W (hW : Below w.heap.size w W) => cloneCr_c p.crons HLn.out.2.1 _ W (RowsK.next HPl.out.cr hW))
    have HPh := chid (fun W (hW : Below w.heap.size w W) => planHeight_c p _ W (HPl.out.next hW) (by have := HFw.out; omega))
    clear hbd t3 hft Y3 hft0 HB2 B2 HY0' HY1' HKp
    go_wp2_with fail
    have h2 : Hid (w.heap.size + 2 ≤ w3.heap.size) := chid (by have := HY3.out.lt; omega)
    have K0 : Hid (Below w3.heap.size w3 w3.drew) := chid (Below.refl _ _).drew
    have HB30 : Hid (Below w.heap.size w w3.drew) := chid HB3.out.drew
    have HSk : Hid (∀ W, Below w3.heap.size w3 W → (fun w' => w'.cell? ⟨w.heap.size, 0, none⟩ = some (.slice a1 p.mets.length c1) ∧ w'.cell? ⟨w.heap.size, 1, none⟩ = some (.int .i64 p.ru.mn) ∧ w'.cell? ⟨w.heap.size, 2, none⟩ = some (.int .i64 p.ru.mx) ∧ w'.cell? ⟨w.heap.size, 3, none⟩ = some (.int .i64 p.ru.st) ∧ w'.cell? ⟨w.heap.size, 4, none⟩ = some (.int .i64 p.ru.up) ∧ w'.cell? ⟨w.heap.size, 5, none⟩ = some (.int .i64 p.ru.dn) ∧ w'.cell? ⟨w.heap.size, 6, none⟩ = some (.slice a2 p.wins.length c2) ∧ w'.cell? ⟨w.heap.size, 7, none⟩ = some (.slice a3 p.crons.length c3) ∧ w'.cell? ⟨w.heap.size, 8, none⟩ = some (.int .i64 p.loc) ∧ w'.cell? ⟨w.heap.size, 9, none⟩ = some (.slice a4 p.gs.length c4) ∧ w'.cell? ⟨w.heap.size, 10, none⟩ = some (.int .i64 p.fin.op) ∧ w'.cell? ⟨w.heap.size, 11, none⟩ = some (.int .i64 p.fin.n) ∧ w'.cell? ⟨w.heap.size, 12, none⟩ = some (.int .i64 p.fin.m) ∧ w'.cell? ⟨w.heap.size, 13, none⟩ = some (.slice a5 p.fin.parts.length c5) ∧ w'.cell? ⟨w1.heap.size, 0, none⟩ = some (.slice ca D.length cc) ∧ w'.cell? ⟨w1.heap.size, 1, none⟩ = some (.slice ka L.length kc) ∧ w.heap.size < w'.heap.size ∧ w1.heap.size < w'.heap.size) W) := chid (fun W hW => ⟨(hW.cell (p := ⟨w.heap.size, _, none⟩) xl).trans x0, (hW.cell (p := ⟨w.heap.size, _, none⟩) xl).trans x1, (hW.cell (p := ⟨w.heap.size, _, none⟩) xl).trans x2, (hW.cell (p := ⟨w.heap.size, _, none⟩) xl).trans x3, (hW.cell (p := ⟨w.heap.size, _, none⟩) xl).trans x4, (hW.cell (p := ⟨w.heap.size, _, none⟩) xl).trans x5, (hW.cell (p := ⟨w.heap.size, _, none⟩) xl).trans x6, (hW.cell (p := ⟨w.heap.size, _, none⟩) xl).trans x7, (hW.cell (p := ⟨w.heap.size, _, none⟩) xl).trans x8, (hW.cell (p := ⟨w.heap.size, _, none⟩) xl).trans x9, (hW.cell (p := ⟨w.heap.size, _, none⟩) xl).trans x10, (hW.cell (p := ⟨w.heap.size, _, none⟩) xl).trans x11, (hW.cell (p := ⟨w.heap.size, _, none⟩) xl).trans x12, (hW.cell (p := ⟨w.heap.size, _, none⟩) xl).trans x13, (hW.cell (p := ⟨w1.heap.size, _, none⟩) dl).trans d0, (hW.cell (p := ⟨w1.heap.size, _, none⟩) dl).trans d1, Nat.lt_of_lt_of_le xl hW.size, Nat.lt_of_lt_of_le dl hW.size⟩)
    have HPh2 := chid (fun W (hW : Below w.heap.size w W) => (HPh.out W hW).mono (fun e w' (h : e = .returned (.int .i64 (plHgt p : Nat)) ∧ Below W.heap.size W w') => (⟨_, h.1, rfl, h.2⟩ : ∃ u, e = .returned u ∧ u = .int .i64 (plHgt p : Nat) ∧ Below W.heap.size W w')))
    refine wp_region_held_drew (S := (fun w' => w'.cell? ⟨w.heap.size, 0, none⟩ = some (.slice a1 p.mets.length c1) ∧ w'.cell? ⟨w.heap.size, 1, none⟩ = some (.int .i64 p.ru.mn) ∧ w'.cell? ⟨w.heap.size, 2, none⟩ = some (.int .i64 p.ru.mx) ∧ w'.cell? ⟨w.heap.size, 3, none⟩ = some (.int .i64 p.ru.st) ∧ w'.cell? ⟨w.heap.size, 4, none⟩ = some (.int .i64 p.ru.up) ∧ w'.cell? ⟨w.heap.size, 5, none⟩ = some (.int .i64 p.ru.dn) ∧ w'.cell? ⟨w.heap.size, 6, none⟩ = some (.slice a2 p.wins.length c2) ∧ w'.cell? ⟨w.heap.size, 7, none⟩ = some (.slice a3 p.crons.length c3) ∧ w'.cell? ⟨w.heap.size, 8, none⟩ = some (.int .i64 p.loc) ∧ w'.cell? ⟨w.heap.size, 9, none⟩ = some (.slice a4 p.gs.length c4) ∧ w'.cell? ⟨w.heap.size, 10, none⟩ = some (.int .i64 p.fin.op) ∧ w'.cell? ⟨w.heap.size, 11, none⟩ = some (.int .i64 p.fin.n) ∧ w'.cell? ⟨w.heap.size, 12, none⟩ = some (.int .i64 p.fin.m) ∧ w'.cell? ⟨w.heap.size, 13, none⟩ = some (.slice a5 p.fin.parts.length c5) ∧ w'.cell? ⟨w1.heap.size, 0, none⟩ = some (.slice ca D.length cc) ∧ w'.cell? ⟨w1.heap.size, 1, none⟩ = some (.slice ka L.length kc) ∧ w.heap.size < w'.heap.size ∧ w1.heap.size < w'.heap.size)) (by kernel_rfl) (HSk.out _ (Below.refl _ _).drew) (fun hS0 => ?_)
    refine wpAnyH_take (i := 0) (v := .pointer (some ⟨w.heap.size, 0, none⟩)) rfl (by kernel_rfl) (by kernel_rfl) (by kernel_rfl) (fun _ _ _ h => h) (Or.inl ⟨rfl, fun w' hS' => ?_⟩) hS0 ?_
    · obtain ⟨q0, q1, q2, q3, q4, q5, q6, q7, q8, q9, q10, q11, q12, q13, d0, d1, ql, qx⟩ := hS'
      go_simp
    refine wpAnyH_take (i := 1) (v := .slice a1 p.mets.length c1) rfl (by kernel_rfl) (by kernel_rfl) (by kernel_rfl) (fun _ _ _ h => h) (Or.inl ⟨rfl, fun w' hS' => ?_⟩) hS0 ?_
    · obtain ⟨q0, q1, q2, q3, q4, q5, q6, q7, q8, q9, q10, q11, q12, q13, d0, d1, ql, qx⟩ := hS'
      go_simp
    refine wpAnyH_take (i := 2) (v := .int .i64 (p.mets.length : Nat)) rfl (by kernel_rfl) (by kernel_rfl) (by kernel_rfl) (fun _ _ _ h => h) (Or.inl ⟨rfl, fun w' hS' => ?_⟩) hS0 ?_
    · obtain ⟨q0, q1, q2, q3, q4, q5, q6, q7, q8, q9, q10, q11, q12, q13, d0, d1, ql, qx⟩ := hS'
      go_simp
    refine wpAnyH_take (i := 3) (v := .pointer (some ⟨w.heap.size, 1, none⟩)) rfl (by kernel_rfl) (by kernel_rfl) (by kernel_rfl) (fun _ _ _ h => h) (Or.inl ⟨rfl, fun w' hS' => ?_⟩) hS0 ?_
    · obtain ⟨q0, q1, q2, q3, q4, q5, q6, q7, q8, q9, q10, q11, q12, q13, d0, d1, ql, qx⟩ := hS'
      go_simp
    refine wpAnyH_take (i := 4) (v := .agg #[.int .i64 p.ru.mn, .int .i64 p.ru.mx, .int .i64 p.ru.st, .int .i64 p.ru.up, .int .i64 p.ru.dn]) rfl (by kernel_rfl) (by kernel_rfl) (by kernel_rfl) (fun _ _ _ h => h) (Or.inl ⟨rfl, fun w' hS' => ?_⟩) hS0 ?_
    · obtain ⟨q0, q1, q2, q3, q4, q5, q6, q7, q8, q9, q10, q11, q12, q13, d0, d1, ql, qx⟩ := hS'
      go_simp
    refine wpAnyH_take (i := 5) (v := .pointer (some ⟨w1.heap.size, 1, none⟩)) rfl (by kernel_rfl) (by kernel_rfl) (by kernel_rfl) (fun _ _ _ h => h) (Or.inl ⟨rfl, fun w' hS' => ?_⟩) hS0 ?_
    · obtain ⟨q0, q1, q2, q3, q4, q5, q6, q7, q8, q9, q10, q11, q12, q13, d0, d1, ql, qx⟩ := hS'
      go_simp
    refine wpAnyH_take (i := 6) (v := .slice ka L.length kc) rfl (by kernel_rfl) (by kernel_rfl) (by kernel_rfl) (fun _ _ _ h => h) (Or.inl ⟨rfl, fun w' hS' => ?_⟩) hS0 ?_
    · obtain ⟨q0, q1, q2, q3, q4, q5, q6, q7, q8, q9, q10, q11, q12, q13, d0, d1, ql, qx⟩ := hS'
      go_simp
    refine wpAnyH_take (i := 7) (v := .pointer (some ⟨w.heap.size, 6, none⟩)) rfl (by kernel_rfl) (by kernel_rfl) (by kernel_rfl) (fun _ _ _ h => h) (Or.inl ⟨rfl, fun w' hS' => ?_⟩) hS0 ?_
    · obtain ⟨q0, q1, q2, q3, q4, q5, q6, q7, q8, q9, q10, q11, q12, q13, d0, d1, ql, qx⟩ := hS'
      go_simp
    refine wpAnyH_take (i := 8) (v := .slice a2 p.wins.length c2) rfl (by kernel_rfl) (by kernel_rfl) (by kernel_rfl) (fun _ _ _ h => h) (Or.inl ⟨rfl, fun w' hS' => ?_⟩) hS0 ?_
    · obtain ⟨q0, q1, q2, q3, q4, q5, q6, q7, q8, q9, q10, q11, q12, q13, d0, d1, ql, qx⟩ := hS'
      go_simp
    refine wpAnyH_take (i := 10) (v := .pointer (some ⟨w.heap.size, 7, none⟩)) rfl (by kernel_rfl) (by kernel_rfl) (by kernel_rfl) (fun _ _ _ h => h) (Or.inl ⟨rfl, fun w' hS' => ?_⟩) hS0 ?_
    · obtain ⟨q0, q1, q2, q3, q4, q5, q6, q7, q8, q9, q10, q11, q12, q13, d0, d1, ql, qx⟩ := hS'
      go_simp
    refine wpAnyH_take (i := 11) (v := .slice a3 p.crons.length c3) rfl (by kernel_rfl) (by kernel_rfl) (by kernel_rfl) (fun _ _ _ h => h) (Or.inl ⟨rfl, fun w' hS' => ?_⟩) hS0 ?_
    · obtain ⟨q0, q1, q2, q3, q4, q5, q6, q7, q8, q9, q10, q11, q12, q13, d0, d1, ql, qx⟩ := hS'
      go_simp
    refine wpAnyH_take (i := 13) (v := .pointer (some ⟨w.heap.size, 8, none⟩)) rfl (by kernel_rfl) (by kernel_rfl) (by kernel_rfl) (fun _ _ _ h => h) (Or.inl ⟨rfl, fun w' hS' => ?_⟩) hS0 ?_
    · obtain ⟨q0, q1, q2, q3, q4, q5, q6, q7, q8, q9, q10, q11, q12, q13, d0, d1, ql, qx⟩ := hS'
      go_simp
    refine wpAnyH_take (i := 14) (v := .int .i64 p.loc) rfl (by kernel_rfl) (by kernel_rfl) (by kernel_rfl) (fun _ _ _ h => h) (Or.inl ⟨rfl, fun w' hS' => ?_⟩) hS0 ?_
    · obtain ⟨q0, q1, q2, q3, q4, q5, q6, q7, q8, q9, q10, q11, q12, q13, d0, d1, ql, qx⟩ := hS'
      go_simp
    refine wpAnyH_take (i := 15) (v := .agg #[.slice a1 p.mets.length c1, .int .i64 p.ru.mn, .int .i64 p.ru.mx, .int .i64 p.ru.st, .int .i64 p.ru.up, .int .i64 p.ru.dn, .slice a2 p.wins.length c2, .slice a3 p.crons.length c3, .int .i64 p.loc, .slice a4 p.gs.length c4, .int .i64 p.fin.op, .int .i64 p.fin.n, .int .i64 p.fin.m, .slice a5 p.fin.parts.length c5]) rfl (by kernel_rfl) (by kernel_rfl) (by kernel_rfl) (fun _ _ _ h => h) (Or.inl ⟨rfl, fun w' hS' => ?_⟩) hS0 ?_
    · obtain ⟨q0, q1, q2, q3, q4, q5, q6, q7, q8, q9, q10, q11, q12, q13, d0, d1, ql, qx⟩ := hS'
      go_simp
    refine wpAnyH_take (i := 17) (v := .pointer (some ⟨w1.heap.size, 0, none⟩)) rfl (by kernel_rfl) (by kernel_rfl) (by kernel_rfl) (fun _ _ _ h => h) (Or.inl ⟨rfl, fun w' hS' => ?_⟩) hS0 ?_
    · obtain ⟨q0, q1, q2, q3, q4, q5, q6, q7, q8, q9, q10, q11, q12, q13, d0, d1, ql, qx⟩ := hS'
      go_simp
    refine wpAnyH_take (i := 18) (v := .slice ca D.length cc) rfl (by kernel_rfl) (by kernel_rfl) (by kernel_rfl) (fun _ _ _ h => h) (Or.inl ⟨rfl, fun w' hS' => ?_⟩) hS0 ?_
    · obtain ⟨q0, q1, q2, q3, q4, q5, q6, q7, q8, q9, q10, q11, q12, q13, d0, d1, ql, qx⟩ := hS'
      go_simp
    clear x0 x1 x2 x3 x4 x5 x6 x7 x8 x9 x10 x11 x12 x13 d0 d1 xl dl
    refine wpAnyH_ready (rs := [9, 20]) (by kernel_rfl) (by simp) (AllReadyH.cons (i := 9) (o := { dst := some 21, op := .call { callee := .value (.func 14), args := #[.tmp 20], argTypes := #[25] }, type := 25, pos := "code.go:24", after := #[{ on := 8, ground := .data }], guard := none }) rfl (fun K hK => ?_) (AllReadyH.cons (i := 20) (o := { dst := some 5, op := .alloc 38, type := 0, pos := "code.go:20", after := #[], guard := none }) rfl (fun K hK => ?_) AllReadyH.nil))
    · skip
      refine step_fn rfl (HCw.out w3.drew HB30.out) (by first | rfl | go_simp) ?_
      intro u w4 hu
      obtain ⟨ow, b4⟩ := hu
      have bb : Below w3.drew.heap.size w3.drew w4 := ⟨b4.os, b4.tape, b4.output, b4.size, b4.block⟩
      have K1 := chid (cbelow_on K0.out bb K0.out.size)
      have HB1a := chid (cbelow_on HB30.out bb HB30.out.size)
      obtain ⟨aw, kw, rfl⟩ := own_shape ow
      have OW1 : Hid (w4.ownsRow (w.heap.size + 2) 46 4 (.slice aw p.wins.length kw) p.wins.length (rowsF (fun i => wiL (p.wins.getD i wi0)) p.wins.length)) := chid (own_low _ ow (Nat.le_trans h2.out K0.out.size))
      clear ow
      have hS1 := HSk.out _ K1.out
      refine hK.out _ _ hS1 (fun _ => ?_)
      clear hK b4 bb
      refine wpAnyH_ready (rs := [12, 20]) (by kernel_rfl) (by simp) (AllReadyH.cons (i := 12) (o := { dst := some 24, op := .call { callee := .value (.func 15), args := #[.tmp 23], argTypes := #[26] }, type := 26, pos := "code.go:25", after := #[{ on := 11, ground := .data }, { on := 9, ground := .chain }], guard := none }) rfl (fun K hK => ?_) (AllReadyH.cons (i := 20) (o := { dst := some 5, op := .alloc 38, type := 0, pos := "code.go:20", after := #[], guard := none }) rfl (fun K hK => ?_) AllReadyH.nil))
      · skip
        refine step_fn rfl (HCc.out w4 HB1a.out) (by first | rfl | go_simp) ?_
        intro u w5 hu
        obtain ⟨ow, b4⟩ := hu
        have bb : Below w4.heap.size w4 w5 := ⟨b4.os, b4.tape, b4.output, b4.size, b4.block⟩
        have K2 := chid (cbelow_on K1.out bb K1.out.size)
        have HB2a := chid (cbelow_on HB1a.out bb HB1a.out.size)
        have OW2 := chid (own_keep OW1.out (fun b _ hb => bb.block b hb))
        obtain ⟨ar, kr, rfl⟩ := own_shape ow
        have OR2 : Hid (w5.ownsRow (w.heap.size + 2) 49 5 (.slice ar p.crons.length kr) p.crons.length (rowsF (fun i => crL (p.crons.getD i cr0)) p.crons.length)) := chid (own_low _ ow (Nat.le_trans h2.out K1.out.size))
        clear ow
        have hS2 := HSk.out _ K2.out
        refine hK.out _ _ hS2 (fun _ => ?_)
        clear hK b4 bb
        refine wpAnyH_ready (rs := [16, 20]) (by kernel_rfl) (by simp) (AllReadyH.cons (i := 16) (o := { dst := some 28, op := .call { callee := .value (.func 16), args := #[.tmp 27], argTypes := #[32] }, type := 3, pos := "code.go:27", after := #[{ on := 15, ground := .data }, { on := 12, ground := .chain }], guard := none }) rfl (fun K hK => ?_) (AllReadyH.cons (i := 20) (o := { dst := some 5, op := .alloc 38, type := 0, pos := "code.go:20", after := #[], guard := none }) rfl (fun K hK => ?_) AllReadyH.nil))
        · skip
          refine step_fn rfl (HPh2.out w5 HB2a.out) (by first | rfl | go_simp) ?_
          intro u w6 hu
          obtain ⟨rfl, b4⟩ := hu
          have bb : Below w5.heap.size w5 w6 := ⟨b4.os, b4.tape, b4.output, b4.size, b4.block⟩
          have K3 := chid (cbelow_on K2.out bb K2.out.size)
          have HB3a := chid (cbelow_on HB2a.out bb HB2a.out.size)
          have OW3 := chid (own_keep OW2.out (fun b _ hb => bb.block b hb))
          have OR3 := chid (own_keep OR2.out (fun b _ hb => bb.block b hb))
          have hS3 := HSk.out _ K3.out
          refine hK.out _ _ hS3 (fun _ => ?_)
          clear hK b4 bb
          obtain ⟨X, hX⟩ : ∃ X : Array Value, Hid (X = #[.int .i64 (p.mets.length : Nat), .int .i64 p.ru.mn, .int .i64 p.ru.mx, .int .i64 p.ru.st, .int .i64 p.ru.up, .int .i64 p.ru.dn, .slice ka L.length kc, .slice aw p.wins.length kw, .slice ar p.crons.length kr, .int .i64 p.loc, .int .i64 (plHgt p : Nat), .slice ca D.length cc]) := ⟨_, chid rfl⟩
          have hXs : X.size = 12 := by rw [hX.out]; rfl
          have hX1 : Hid (∀ v, v ∈ X.toList → v.oneCell' = true) := chid (by rw [hX.out]; intro v hv; simp only [List.mem_cons, List.not_mem_nil, or_false] at hv; rcases hv with rfl | rfl | rfl | rfl | rfl | rfl | rfl | rfl | rfl | rfl | rfl | rfl <;> rfl)
          refine wpAnyH_take (i := 19) (v := .agg X) rfl (by kernel_rfl) (by kernel_rfl) (by kernel_rfl) (fun _ _ _ h => h) (Or.inl ⟨rfl, fun w' hS' => ?_⟩) hS3 ?_
          · clear hS'
            rw [hX.out]
            go_simp
          refine wpAnyH_ready (rs := [20]) (by kernel_rfl) (by simp) (AllReadyH.cons (i := 20) (o := { dst := some 5, op := .alloc 38, type := 0, pos := "code.go:20", after := #[], guard := none }) rfl (fun K hK => ?_) AllReadyH.nil)
          rw [if_pos (show Region.wanted _ _ = true from rfl)]
          have HS1 := store_fresh w6 X hXs hX1.out
          have K4 := chid (cbelow_on K3.out (bel_alloc w6 (.cells #[.int .i64 0, .int .i64 0, .int .i64 0, .int .i64 0, .int .i64 0, .int .i64 0, .slice none 0 0, .slice none 0 0, .slice none 0 0, .int .i64 0, .int .i64 0, .slice none 0 0] 38)) K3.out.size)
          have hS4 := HSk.out _ K4.out
          have K4x := chid (cbelow_on K3.out (bel_alloc w6 (.cells X 38)) K3.out.size)
          have hS4x := HSk.out _ K4x.out
          go_simp
          refine hK.out _ _ hS4 (fun _ => ?_)
          clear hK
          refine wpAnyH_ready (rs := [21]) (by kernel_rfl) (by simp) (AllReadyH.cons (i := 21) (o := { dst := none, op := .store 38 (.tmp 5) (.tmp 31), type := 0, pos := "code.go:20", after := #[{ on := 20, ground := .data }, { on := 19, ground := .data }, { on := 16, ground := .chain }, { on := 0, ground := .phase }, { on := 1, ground := .phase }, { on := 2, ground := .phase }, { on := 3, ground := .phase }, { on := 4, ground := .phase }, { on := 5, ground := .phase }, { on := 6, ground := .phase }, { on := 7, ground := .phase }, { on := 8, ground := .phase }, { on := 9, ground := .phase }, { on := 10, ground := .phase }, { on := 11, ground := .phase }, { on := 12, ground := .phase }, { on := 13, ground := .phase }, { on := 14, ground := .phase }, { on := 15, ground := .phase }, { on := 16, ground := .phase }, { on := 17, ground := .phase }, { on := 18, ground := .phase }, { on := 19, ground := .phase }, { on := 20, ground := .phase }], guard := none }) rfl (fun K hK => ?_) AllReadyH.nil)
          rw [if_pos (show Region.wanted _ _ = true from rfl)]
          simp [go_sem, hXs, HS1]
          refine hK.out _ _ hS4x (fun _ => ?_)
          clear hK HS1
          have MB : Box (w6.alloc (.cells X 38)) w6.heap.size X.toList := Box.new w6 X.toList 38
          have PG : PgAt (w6.alloc (.cells X 38)) (w.heap.size + 2) (progF p) ⟨.slice ka L.length kc, .slice aw p.wins.length kw, .slice ar p.crons.length kr, .slice ca D.length cc⟩ := by
            have hk : ∀ b, b < w6.heap.size → (w6.alloc (.cells X 38)).heap[b]? = w6.heap[b]? := fun b hb => (bel_alloc w6 _).block b hb
            have e1 : L = (progF p).K := hL.out
            have e2 : D = (progF p).C := hD.out
            rw [e1, e2]
            have hc := own_keep HCC.out (fun b _ hb => K3.out.block b hb)
            have hc2 := own_keep HCK.out (fun b _ hb => K3.out.block b hb)
            rw [e2] at hc
            rw [e1] at hc2
            exact ⟨own_keep hc2 (fun b _ hb => hk b hb), own_keep OW3.out (fun b _ hb => hk b hb), own_keep OR3.out (fun b _ hb => hk b hb), own_keep hc (fun b _ hb => hk b hb)⟩
          have B7 : Below w.heap.size w (w6.alloc (.cells X 38)) := cbelow_on HB3a.out (bel_alloc w6 _) HB3a.out.size
          have Y7 := (HY3.out.later K4x.out HY3.out.lt)
          skip
          have hXe : X = #[.int .i64 (p.mets.length : Nat), .int .i64 p.ru.mn, .int .i64 p.ru.mx, .int .i64 p.ru.st, .int .i64 p.ru.up, .int .i64 p.ru.dn, .slice ka L.length kc, .slice aw p.wins.length kw, .slice ar p.crons.length kr, .int .i64 p.loc, .int .i64 (plHgt p : Nat), .slice ca D.length cc] := hX.out
          clear hX hX1 hXs
          subst hXe
          have m0 := MB.cell 0 _ rfl
          have m1 := MB.cell 1 _ rfl
          have m2 := MB.cell 2 _ rfl
          have m3 := MB.cell 3 _ rfl
          have m4 := MB.cell 4 _ rfl
          have m5 := MB.cell 5 _ rfl
          have m6 := MB.cell 6 _ rfl
          have m7 := MB.cell 7 _ rfl
          have m8 := MB.cell 8 _ rfl
          have m9 := MB.cell 9 _ rfl
          have m10 := MB.cell 10 _ rfl
          have m11 := MB.cell 11 _ rfl
          have ml := MB.lt
          have HLg := chid (large_c (progF p) _ _ _ PG)
          have HPG := chid PG
          have HB7 := chid B7
          have HY7 := chid Y7
          have HMB := chid MB
          clear MB PG B7 Y7
          refine wpAnyH_done (by kernel_rfl) ?_ _
          go_wp2_with fail
          refine Calls.mono HLg.out ?_
          rintro e w8 ⟨rfl, b8⟩
          have B8 := chid (cbelow_on HB7.out b8 HB7.out.size)
          have PG8 := chid (HPG.out.keep (fun b _ hb => b8.block b hb))
          have Y8 := HY7.out.next b8
          have M8 := HMB.out.next b8
          clear m0 m1 m2 m3 m4 m5 m6 m7 m8 m9 m10 m11 ml b8 HLg HPG HB7
          have y0 := Y8.cell 0 _ rfl
          have g0 := Y8.free 0 (by simp)
          have y1 := Y8.cell 1 _ rfl
          have g1 := Y8.free 1 (by simp)
          have y2 := Y8.cell 2 _ rfl
          have g2 := Y8.free 2 (by simp)
          have y3 := Y8.cell 3 _ rfl
          have g3 := Y8.free 3 (by simp)
          have y4 := Y8.cell 4 _ rfl
          have g4 := Y8.free 4 (by simp)
          have y5 := Y8.cell 5 _ rfl
          have g5 := Y8.free 5 (by simp)
          have y6 := Y8.cell 6 _ rfl
          have g6 := Y8.free 6 (by simp)
          have y7 := Y8.cell 7 _ rfl
          have g7 := Y8.free 7 (by simp)
          have y8 := Y8.cell 8 _ rfl
          have g8 := Y8.free 8 (by simp)
          have y9 := Y8.cell 9 _ rfl
          have g9 := Y8.free 9 (by simp)
          have y10 := Y8.cell 10 _ rfl
          have g10 := Y8.free 10 (by simp)
          have y11 := Y8.cell 11 _ rfl
          have g11 := Y8.free 11 (by simp)
          have yl := Y8.lt
          have m0 := M8.cell 0 _ rfl
          have m1 := M8.cell 1 _ rfl
          have m2 := M8.cell 2 _ rfl
          have m3 := M8.cell 3 _ rfl
          have m4 := M8.cell 4 _ rfl
          have m5 := M8.cell 5 _ rfl
          have m6 := M8.cell 6 _ rfl
          have m7 := M8.cell 7 _ rfl
          have m8 := M8.cell 8 _ rfl
          have m9 := M8.cell 9 _ rfl
          have m10 := M8.cell 10 _ rfl
          have m11 := M8.cell 11 _ rfl
          have ml := M8.lt
          clear Y8 M8
          cases hlg : largeB (progF p) with
          | true =>
            have hr : R = (pg0, 14) := by rw [HR.out, if_pos hlg]
            clear hlg HR
            subst hr
            go_wp2_with fail
            refine bodyPost_ret (v := .tuple #[pgV pg0 ⟨.slice none 0 0, .slice none 0 0, .slice none 0 0, .slice none 0 0⟩, .int .i64 14]) (by simp [results, Tryz.results7, go_sem, pg0, *]) rfl ?_
            exact ⟨_, rfl, pg0_at _ _, below_one B8.out (set12_turn w8 (w.heap.size + 1) _ _ _ _ _ _ _ _ _ _ _ _) (by omega)⟩
          | false =>
            have hr : R = (progF p, 0) := by rw [HR.out, if_neg (by rw [hlg]; decide)]
            clear hlg HR
            subst hr
            go_wp2_with fail
            refine bodyPost_ret (v := .tuple #[pgV (progF p) ⟨.slice ka L.length kc, .slice aw p.wins.length kw, .slice ar p.crons.length kr, .slice ca D.length cc⟩, .int .i64 0]) (by simp [results, Tryz.results7, go_sem, progF, *]) rfl ?_
            have T := set12_turn w8 (w.heap.size + 1) (.int .i64 (p.mets.length : Nat)) (.int .i64 p.ru.mn) (.int .i64 p.ru.mx) (.int .i64 p.ru.st) (.int .i64 p.ru.up) (.int .i64 p.ru.dn) (.slice ka L.length kc) (.slice aw p.wins.length kw) (.slice ar p.crons.length kr) (.int .i64 p.loc) (.int .i64 (plHgt p : Nat)) (.slice ca D.length cc)
            exact ⟨_, rfl, (PG8.out.keep (fun b hb1 hb => T.block b hb (by simp; omega))).low (by omega), below_one B8.out T (by omega)⟩
        · skip
          rw [if_pos (show Region.wanted _ _ = true from rfl)]
          have HM5 := chid (show MadeAt (w5.alloc (.cells #[.int .i64 0, .int .i64 0, .int .i64 0, .int .i64 0, .int .i64 0, .int .i64 0, .slice none 0 0, .slice none 0 0, .slice none 0 0, .int .i64 0, .int .i64 0, .slice none 0 0] 38)) w3.heap.size w5.heap.size from MadeAt.new (w := w5) (lo := w3.heap.size) K2.out.size)
          have K5 := chid (cbelow_on K2.out (bel_alloc w5 (.cells #[.int .i64 0, .int .i64 0, .int .i64 0, .int .i64 0, .int .i64 0, .int .i64 0, .slice none 0 0, .slice none 0 0, .slice none 0 0, .int .i64 0, .int .i64 0, .slice none 0 0] 38)) K2.out.size)
          have HB5a := chid (cbelow_on HB2a.out (bel_alloc w5 (.cells #[.int .i64 0, .int .i64 0, .int .i64 0, .int .i64 0, .int .i64 0, .int .i64 0, .slice none 0 0, .slice none 0 0, .slice none 0 0, .int .i64 0, .int .i64 0, .slice none 0 0] 38)) HB2a.out.size)
          have hS5 := HSk.out _ K5.out
          have OW5 := chid (own_keep OW2.out (fun b _ hb => (bel_alloc w5 (.cells #[.int .i64 0, .int .i64 0, .int .i64 0, .int .i64 0, .int .i64 0, .int .i64 0, .slice none 0 0, .slice none 0 0, .slice none 0 0, .int .i64 0, .int .i64 0, .slice none 0 0] 38)).block b hb))
          have OR5 := chid (own_keep OR2.out (fun b _ hb => (bel_alloc w5 (.cells #[.int .i64 0, .int .i64 0, .int .i64 0, .int .i64 0, .int .i64 0, .int .i64 0, .slice none 0 0, .slice none 0 0, .slice none 0 0, .int .i64 0, .int .i64 0, .slice none 0 0] 38)).block b hb))
          go_simp
          refine hK.out _ _ hS5 (fun _ => ?_)
          clear hK
          refine wpAnyH_ready (rs := [16]) (by kernel_rfl) (by simp) (AllReadyH.cons (i := 16) (o := { dst := some 28, op := .call { callee := .value (.func 16), args := #[.tmp 27], argTypes := #[32] }, type := 3, pos := "code.go:27", after := #[{ on := 15, ground := .data }, { on := 12, ground := .chain }], guard := none }) rfl (fun K hK => ?_) AllReadyH.nil)
          refine step_fn rfl (HPh2.out (w5.alloc (.cells #[.int .i64 0, .int .i64 0, .int .i64 0, .int .i64 0, .int .i64 0, .int .i64 0, .slice none 0 0, .slice none 0 0, .slice none 0 0, .int .i64 0, .int .i64 0, .slice none 0 0] 38)) HB5a.out) (by first | rfl | go_simp) ?_
          intro u w6 hu
          obtain ⟨rfl, b4⟩ := hu
          have bb : Below (w5.alloc (.cells #[.int .i64 0, .int .i64 0, .int .i64 0, .int .i64 0, .int .i64 0, .int .i64 0, .slice none 0 0, .slice none 0 0, .slice none 0 0, .int .i64 0, .int .i64 0, .slice none 0 0] 38)).heap.size (w5.alloc (.cells #[.int .i64 0, .int .i64 0, .int .i64 0, .int .i64 0, .int .i64 0, .int .i64 0, .slice none 0 0, .slice none 0 0, .slice none 0 0, .int .i64 0, .int .i64 0, .slice none 0 0] 38)) w6 := ⟨b4.os, b4.tape, b4.output, b4.size, b4.block⟩
          have K6 := chid (cbelow_on K5.out bb K5.out.size)
          have HB6a := chid (cbelow_on HB5a.out bb HB5a.out.size)
          have HM6 := chid (HM5.out.next bb)
          have OW6 := chid (own_keep OW5.out (fun b _ hb => bb.block b hb))
          have OR6 := chid (own_keep OR5.out (fun b _ hb => bb.block b hb))
          have hS6 := HSk.out _ K6.out
          refine hK.out _ _ hS6 (fun _ => ?_)
          clear hK b4 bb
          obtain ⟨X, hX⟩ : ∃ X : Array Value, Hid (X = #[.int .i64 (p.mets.length : Nat), .int .i64 p.ru.mn, .int .i64 p.ru.mx, .int .i64 p.ru.st, .int .i64 p.ru.up, .int .i64 p.ru.dn, .slice ka L.length kc, .slice aw p.wins.length kw, .slice ar p.crons.length kr, .int .i64 p.loc, .int .i64 (plHgt p : Nat), .slice ca D.length cc]) := ⟨_, chid rfl⟩
          have hXs : X.size = 12 := by rw [hX.out]; rfl
          have hX1 : Hid (∀ v, v ∈ X.toList → v.oneCell' = true) := chid (by rw [hX.out]; intro v hv; simp only [List.mem_cons, List.not_mem_nil, or_false] at hv; rcases hv with rfl | rfl | rfl | rfl | rfl | rfl | rfl | rfl | rfl | rfl | rfl | rfl <;> rfl)
          refine wpAnyH_take (i := 19) (v := .agg X) rfl (by kernel_rfl) (by kernel_rfl) (by kernel_rfl) (fun _ _ _ h => h) (Or.inl ⟨rfl, fun w' hS' => ?_⟩) hS6 ?_
          · clear hS'
            rw [hX.out]
            go_simp
          refine wpAnyH_ready (rs := [21]) (by kernel_rfl) (by simp) (AllReadyH.cons (i := 21) (o := { dst := none, op := .store 38 (.tmp 5) (.tmp 31), type := 0, pos := "code.go:20", after := #[{ on := 20, ground := .data }, { on := 19, ground := .data }, { on := 16, ground := .chain }, { on := 0, ground := .phase }, { on := 1, ground := .phase }, { on := 2, ground := .phase }, { on := 3, ground := .phase }, { on := 4, ground := .phase }, { on := 5, ground := .phase }, { on := 6, ground := .phase }, { on := 7, ground := .phase }, { on := 8, ground := .phase }, { on := 9, ground := .phase }, { on := 10, ground := .phase }, { on := 11, ground := .phase }, { on := 12, ground := .phase }, { on := 13, ground := .phase }, { on := 14, ground := .phase }, { on := 15, ground := .phase }, { on := 16, ground := .phase }, { on := 17, ground := .phase }, { on := 18, ground := .phase }, { on := 19, ground := .phase }, { on := 20, ground := .phase }], guard := none }) rfl (fun K hK => ?_) AllReadyH.nil)
          rw [if_pos (show Region.wanted _ _ = true from rfl)]
          have HS1 := store_made HM6.out X hXs hX1.out
          have hl12 : X.toList.length = 12 := by rw [Array.length_toList]; exact hXs
          obtain ⟨mb1, mt⟩ := setCells_box _ X.toList 0 _ _ HM6.out.box (by rw [hl12]; rfl)
          rw [List.take_zero, List.nil_append] at mb1
          have mg := HM6.out.ge
          have mty := HM6.out.ty
          have mlt := HM6.out.box.lt
          have K7x := chid (K6.out.trans (mt.below (fun k hk => by rw [List.mem_singleton.1 hk]; exact mg) K6.out.size))
          have hS7x := HSk.out _ K7x.out
          simp [go_sem, hXs, HS1]
          refine hK.out _ _ hS7x (fun _ => ?_)
          clear hK HS1
          generalize hW7 : World.setCells _ _ _ _ = W7 at *
          have MB : Box W7 _ X.toList := mb1
          have PG : PgAt W7 (w.heap.size + 2) (progF p) ⟨.slice ka L.length kc, .slice aw p.wins.length kw, .slice ar p.crons.length kr, .slice ca D.length cc⟩ := by
            have e1 : L = (progF p).K := hL.out
            have e2 : D = (progF p).C := hD.out
            rw [e1, e2]
            have hc := own_keep HCC.out (fun b _ hb => K6.out.block b hb)
            have hc2 := own_keep HCK.out (fun b _ hb => K6.out.block b hb)
            rw [e2] at hc
            rw [e1] at hc2
            exact ⟨own_set hc2 mty (by decide) mt, own_set OW6.out mty (by decide) mt, own_set OR6.out mty (by decide) mt, own_set hc mty (by decide) mt⟩
          have B7 : Below w.heap.size w W7 := HB6a.out.trans (mt.below (fun k hk => by rw [List.mem_singleton.1 hk]; exact Nat.le_trans HB3.out.size mg) HB6a.out.size)
          have Y7 := (HY3.out.later K7x.out HY3.out.lt)
          have hXe : X = #[.int .i64 (p.mets.length : Nat), .int .i64 p.ru.mn, .int .i64 p.ru.mx, .int .i64 p.ru.st, .int .i64 p.ru.up, .int .i64 p.ru.dn, .slice ka L.length kc, .slice aw p.wins.length kw, .slice ar p.crons.length kr, .int .i64 p.loc, .int .i64 (plHgt p : Nat), .slice ca D.length cc] := hX.out
          clear hX hX1 hXs
          subst hXe
          have m0 := MB.cell 0 _ rfl
          have m1 := MB.cell 1 _ rfl
          have m2 := MB.cell 2 _ rfl
          have m3 := MB.cell 3 _ rfl
          have m4 := MB.cell 4 _ rfl
          have m5 := MB.cell 5 _ rfl
          have m6 := MB.cell 6 _ rfl
          have m7 := MB.cell 7 _ rfl
          have m8 := MB.cell 8 _ rfl
          have m9 := MB.cell 9 _ rfl
          have m10 := MB.cell 10 _ rfl
          have m11 := MB.cell 11 _ rfl
          have ml := MB.lt
          have HLg := chid (large_c (progF p) _ _ _ PG)
          have HPG := chid PG
          have HB7 := chid B7
          have HY7 := chid Y7
          have HMB := chid MB
          clear MB PG B7 Y7
          refine wpAnyH_done (by kernel_rfl) ?_ _
          go_wp2_with fail
          refine Calls.mono HLg.out ?_
          rintro e w8 ⟨rfl, b8⟩
          have B8 := chid (cbelow_on HB7.out b8 HB7.out.size)
          have PG8 := chid (HPG.out.keep (fun b _ hb => b8.block b hb))
          have Y8 := HY7.out.next b8
          have M8 := HMB.out.next b8
          clear m0 m1 m2 m3 m4 m5 m6 m7 m8 m9 m10 m11 ml b8 HLg HPG HB7
          have y0 := Y8.cell 0 _ rfl
          have g0 := Y8.free 0 (by simp)
          have y1 := Y8.cell 1 _ rfl
          have g1 := Y8.free 1 (by simp)
          have y2 := Y8.cell 2 _ rfl
          have g2 := Y8.free 2 (by simp)
          have y3 := Y8.cell 3 _ rfl
          have g3 := Y8.free 3 (by simp)
          have y4 := Y8.cell 4 _ rfl
          have g4 := Y8.free 4 (by simp)
          have y5 := Y8.cell 5 _ rfl
          have g5 := Y8.free 5 (by simp)
          have y6 := Y8.cell 6 _ rfl
          have g6 := Y8.free 6 (by simp)
          have y7 := Y8.cell 7 _ rfl
          have g7 := Y8.free 7 (by simp)
          have y8 := Y8.cell 8 _ rfl
          have g8 := Y8.free 8 (by simp)
          have y9 := Y8.cell 9 _ rfl
          have g9 := Y8.free 9 (by simp)
          have y10 := Y8.cell 10 _ rfl
          have g10 := Y8.free 10 (by simp)
          have y11 := Y8.cell 11 _ rfl
          have g11 := Y8.free 11 (by simp)
          have yl := Y8.lt
          have m0 := M8.cell 0 _ rfl
          have m1 := M8.cell 1 _ rfl
          have m2 := M8.cell 2 _ rfl
          have m3 := M8.cell 3 _ rfl
          have m4 := M8.cell 4 _ rfl
          have m5 := M8.cell 5 _ rfl
          have m6 := M8.cell 6 _ rfl
          have m7 := M8.cell 7 _ rfl
          have m8 := M8.cell 8 _ rfl
          have m9 := M8.cell 9 _ rfl
          have m10 := M8.cell 10 _ rfl
          have m11 := M8.cell 11 _ rfl
          have ml := M8.lt
          clear Y8 M8
          cases hlg : largeB (progF p) with
          | true =>
            have hr : R = (pg0, 14) := by rw [HR.out, if_pos hlg]
            clear hlg HR
            subst hr
            go_wp2_with fail
            refine bodyPost_ret (v := .tuple #[pgV pg0 ⟨.slice none 0 0, .slice none 0 0, .slice none 0 0, .slice none 0 0⟩, .int .i64 14]) (by simp [results, Tryz.results7, go_sem, pg0, *]) rfl ?_
            exact ⟨_, rfl, pg0_at _ _, below_one B8.out (set12_turn w8 (w.heap.size + 1) _ _ _ _ _ _ _ _ _ _ _ _) (by omega)⟩
          | false =>
            have hr : R = (progF p, 0) := by rw [HR.out, if_neg (by rw [hlg]; decide)]
            clear hlg HR
            subst hr
            go_wp2_with fail
            refine bodyPost_ret (v := .tuple #[pgV (progF p) ⟨.slice ka L.length kc, .slice aw p.wins.length kw, .slice ar p.crons.length kr, .slice ca D.length cc⟩, .int .i64 0]) (by simp [results, Tryz.results7, go_sem, progF, *]) rfl ?_
            have T := set12_turn w8 (w.heap.size + 1) (.int .i64 (p.mets.length : Nat)) (.int .i64 p.ru.mn) (.int .i64 p.ru.mx) (.int .i64 p.ru.st) (.int .i64 p.ru.up) (.int .i64 p.ru.dn) (.slice ka L.length kc) (.slice aw p.wins.length kw) (.slice ar p.crons.length kr) (.int .i64 p.loc) (.int .i64 (plHgt p : Nat)) (.slice ca D.length cc)
            exact ⟨_, rfl, (PG8.out.keep (fun b hb1 hb => T.block b hb (by simp; omega))).low (by omega), below_one B8.out T (by omega)⟩
      · skip
        rw [if_pos (show Region.wanted _ _ = true from rfl)]
        have HM8 := chid (show MadeAt (w4.alloc (.cells #[.int .i64 0, .int .i64 0, .int .i64 0, .int .i64 0, .int .i64 0, .int .i64 0, .slice none 0 0, .slice none 0 0, .slice none 0 0, .int .i64 0, .int .i64 0, .slice none 0 0] 38)) w3.heap.size w4.heap.size from MadeAt.new (w := w4) (lo := w3.heap.size) K1.out.size)
        have K8 := chid (cbelow_on K1.out (bel_alloc w4 (.cells #[.int .i64 0, .int .i64 0, .int .i64 0, .int .i64 0, .int .i64 0, .int .i64 0, .slice none 0 0, .slice none 0 0, .slice none 0 0, .int .i64 0, .int .i64 0, .slice none 0 0] 38)) K1.out.size)
        have HB8a := chid (cbelow_on HB1a.out (bel_alloc w4 (.cells #[.int .i64 0, .int .i64 0, .int .i64 0, .int .i64 0, .int .i64 0, .int .i64 0, .slice none 0 0, .slice none 0 0, .slice none 0 0, .int .i64 0, .int .i64 0, .slice none 0 0] 38)) HB1a.out.size)
        have hS8 := HSk.out _ K8.out
        have OW8 := chid (own_keep OW1.out (fun b _ hb => (bel_alloc w4 (.cells #[.int .i64 0, .int .i64 0, .int .i64 0, .int .i64 0, .int .i64 0, .int .i64 0, .slice none 0 0, .slice none 0 0, .slice none 0 0, .int .i64 0, .int .i64 0, .slice none 0 0] 38)).block b hb))
        go_simp
        refine hK.out _ _ hS8 (fun _ => ?_)
        clear hK
        refine wpAnyH_ready (rs := [12]) (by kernel_rfl) (by simp) (AllReadyH.cons (i := 12) (o := { dst := some 24, op := .call { callee := .value (.func 15), args := #[.tmp 23], argTypes := #[26] }, type := 26, pos := "code.go:25", after := #[{ on := 11, ground := .data }, { on := 9, ground := .chain }], guard := none }) rfl (fun K hK => ?_) AllReadyH.nil)
        refine step_fn rfl (HCc.out (w4.alloc (.cells #[.int .i64 0, .int .i64 0, .int .i64 0, .int .i64 0, .int .i64 0, .int .i64 0, .slice none 0 0, .slice none 0 0, .slice none 0 0, .int .i64 0, .int .i64 0, .slice none 0 0] 38)) HB8a.out) (by first | rfl | go_simp) ?_
        intro u w5 hu
        obtain ⟨ow, b4⟩ := hu
        have bb : Below (w4.alloc (.cells #[.int .i64 0, .int .i64 0, .int .i64 0, .int .i64 0, .int .i64 0, .int .i64 0, .slice none 0 0, .slice none 0 0, .slice none 0 0, .int .i64 0, .int .i64 0, .slice none 0 0] 38)).heap.size (w4.alloc (.cells #[.int .i64 0, .int .i64 0, .int .i64 0, .int .i64 0, .int .i64 0, .int .i64 0, .slice none 0 0, .slice none 0 0, .slice none 0 0, .int .i64 0, .int .i64 0, .slice none 0 0] 38)) w5 := ⟨b4.os, b4.tape, b4.output, b4.size, b4.block⟩
        have K9 := chid (cbelow_on K8.out bb K8.out.size)
        have HB9a := chid (cbelow_on HB8a.out bb HB8a.out.size)
        have HM9 := chid (HM8.out.next bb)
        have OW9 := chid (own_keep OW8.out (fun b _ hb => bb.block b hb))
        obtain ⟨ar, kr, rfl⟩ := own_shape ow
        have OR9 : Hid (w5.ownsRow (w.heap.size + 2) 49 5 (.slice ar p.crons.length kr) p.crons.length (rowsF (fun i => crL (p.crons.getD i cr0)) p.crons.length)) := chid (own_low _ ow (Nat.le_trans h2.out K8.out.size))
        clear ow
        have hS9 := HSk.out _ K9.out
        refine hK.out _ _ hS9 (fun _ => ?_)
        clear hK b4 bb
        refine wpAnyH_ready (rs := [16]) (by kernel_rfl) (by simp) (AllReadyH.cons (i := 16) (o := { dst := some 28, op := .call { callee := .value (.func 16), args := #[.tmp 27], argTypes := #[32] }, type := 3, pos := "code.go:27", after := #[{ on := 15, ground := .data }, { on := 12, ground := .chain }], guard := none }) rfl (fun K hK => ?_) AllReadyH.nil)
        refine step_fn rfl (HPh2.out w5 HB9a.out) (by first | rfl | go_simp) ?_
        intro u w6 hu
        obtain ⟨rfl, b4⟩ := hu
        have bb : Below w5.heap.size w5 w6 := ⟨b4.os, b4.tape, b4.output, b4.size, b4.block⟩
        have K10 := chid (cbelow_on K9.out bb K9.out.size)
        have HB10a := chid (cbelow_on HB9a.out bb HB9a.out.size)
        have HM10 := chid (HM9.out.next bb)
        have OW10 := chid (own_keep OW9.out (fun b _ hb => bb.block b hb))
        have OR10 := chid (own_keep OR9.out (fun b _ hb => bb.block b hb))
        have hS10 := HSk.out _ K10.out
        refine hK.out _ _ hS10 (fun _ => ?_)
        clear hK b4 bb
        obtain ⟨X, hX⟩ : ∃ X : Array Value, Hid (X = #[.int .i64 (p.mets.length : Nat), .int .i64 p.ru.mn, .int .i64 p.ru.mx, .int .i64 p.ru.st, .int .i64 p.ru.up, .int .i64 p.ru.dn, .slice ka L.length kc, .slice aw p.wins.length kw, .slice ar p.crons.length kr, .int .i64 p.loc, .int .i64 (plHgt p : Nat), .slice ca D.length cc]) := ⟨_, chid rfl⟩
        have hXs : X.size = 12 := by rw [hX.out]; rfl
        have hX1 : Hid (∀ v, v ∈ X.toList → v.oneCell' = true) := chid (by rw [hX.out]; intro v hv; simp only [List.mem_cons, List.not_mem_nil, or_false] at hv; rcases hv with rfl | rfl | rfl | rfl | rfl | rfl | rfl | rfl | rfl | rfl | rfl | rfl <;> rfl)
        refine wpAnyH_take (i := 19) (v := .agg X) rfl (by kernel_rfl) (by kernel_rfl) (by kernel_rfl) (fun _ _ _ h => h) (Or.inl ⟨rfl, fun w' hS' => ?_⟩) hS10 ?_
        · clear hS'
          rw [hX.out]
          go_simp
        refine wpAnyH_ready (rs := [21]) (by kernel_rfl) (by simp) (AllReadyH.cons (i := 21) (o := { dst := none, op := .store 38 (.tmp 5) (.tmp 31), type := 0, pos := "code.go:20", after := #[{ on := 20, ground := .data }, { on := 19, ground := .data }, { on := 16, ground := .chain }, { on := 0, ground := .phase }, { on := 1, ground := .phase }, { on := 2, ground := .phase }, { on := 3, ground := .phase }, { on := 4, ground := .phase }, { on := 5, ground := .phase }, { on := 6, ground := .phase }, { on := 7, ground := .phase }, { on := 8, ground := .phase }, { on := 9, ground := .phase }, { on := 10, ground := .phase }, { on := 11, ground := .phase }, { on := 12, ground := .phase }, { on := 13, ground := .phase }, { on := 14, ground := .phase }, { on := 15, ground := .phase }, { on := 16, ground := .phase }, { on := 17, ground := .phase }, { on := 18, ground := .phase }, { on := 19, ground := .phase }, { on := 20, ground := .phase }], guard := none }) rfl (fun K hK => ?_) AllReadyH.nil)
        rw [if_pos (show Region.wanted _ _ = true from rfl)]
        have HS1 := store_made HM10.out X hXs hX1.out
        have hl12 : X.toList.length = 12 := by rw [Array.length_toList]; exact hXs
        obtain ⟨mb1, mt⟩ := setCells_box _ X.toList 0 _ _ HM10.out.box (by rw [hl12]; rfl)
        rw [List.take_zero, List.nil_append] at mb1
        have mg := HM10.out.ge
        have mty := HM10.out.ty
        have mlt := HM10.out.box.lt
        have K11x := chid (K10.out.trans (mt.below (fun k hk => by rw [List.mem_singleton.1 hk]; exact mg) K10.out.size))
        have hS11x := HSk.out _ K11x.out
        simp [go_sem, hXs, HS1]
        refine hK.out _ _ hS11x (fun _ => ?_)
        clear hK HS1
        generalize hW7 : World.setCells _ _ _ _ = W7 at *
        have MB : Box W7 _ X.toList := mb1
        have PG : PgAt W7 (w.heap.size + 2) (progF p) ⟨.slice ka L.length kc, .slice aw p.wins.length kw, .slice ar p.crons.length kr, .slice ca D.length cc⟩ := by
          have e1 : L = (progF p).K := hL.out
          have e2 : D = (progF p).C := hD.out
          rw [e1, e2]
          have hc := own_keep HCC.out (fun b _ hb => K10.out.block b hb)
          have hc2 := own_keep HCK.out (fun b _ hb => K10.out.block b hb)
          rw [e2] at hc
          rw [e1] at hc2
          exact ⟨own_set hc2 mty (by decide) mt, own_set OW10.out mty (by decide) mt, own_set OR10.out mty (by decide) mt, own_set hc mty (by decide) mt⟩
        have B7 : Below w.heap.size w W7 := HB10a.out.trans (mt.below (fun k hk => by rw [List.mem_singleton.1 hk]; exact Nat.le_trans HB3.out.size mg) HB10a.out.size)
        have Y7 := (HY3.out.later K11x.out HY3.out.lt)
        have hXe : X = #[.int .i64 (p.mets.length : Nat), .int .i64 p.ru.mn, .int .i64 p.ru.mx, .int .i64 p.ru.st, .int .i64 p.ru.up, .int .i64 p.ru.dn, .slice ka L.length kc, .slice aw p.wins.length kw, .slice ar p.crons.length kr, .int .i64 p.loc, .int .i64 (plHgt p : Nat), .slice ca D.length cc] := hX.out
        clear hX hX1 hXs
        subst hXe
        have m0 := MB.cell 0 _ rfl
        have m1 := MB.cell 1 _ rfl
        have m2 := MB.cell 2 _ rfl
        have m3 := MB.cell 3 _ rfl
        have m4 := MB.cell 4 _ rfl
        have m5 := MB.cell 5 _ rfl
        have m6 := MB.cell 6 _ rfl
        have m7 := MB.cell 7 _ rfl
        have m8 := MB.cell 8 _ rfl
        have m9 := MB.cell 9 _ rfl
        have m10 := MB.cell 10 _ rfl
        have m11 := MB.cell 11 _ rfl
        have ml := MB.lt
        have HLg := chid (large_c (progF p) _ _ _ PG)
        have HPG := chid PG
        have HB7 := chid B7
        have HY7 := chid Y7
        have HMB := chid MB
        clear MB PG B7 Y7
        refine wpAnyH_done (by kernel_rfl) ?_ _
        go_wp2_with fail
        refine Calls.mono HLg.out ?_
        rintro e w8 ⟨rfl, b8⟩
        have B8 := chid (cbelow_on HB7.out b8 HB7.out.size)
        have PG8 := chid (HPG.out.keep (fun b _ hb => b8.block b hb))
        have Y8 := HY7.out.next b8
        have M8 := HMB.out.next b8
        clear m0 m1 m2 m3 m4 m5 m6 m7 m8 m9 m10 m11 ml b8 HLg HPG HB7
        have y0 := Y8.cell 0 _ rfl
        have g0 := Y8.free 0 (by simp)
        have y1 := Y8.cell 1 _ rfl
        have g1 := Y8.free 1 (by simp)
        have y2 := Y8.cell 2 _ rfl
        have g2 := Y8.free 2 (by simp)
        have y3 := Y8.cell 3 _ rfl
        have g3 := Y8.free 3 (by simp)
        have y4 := Y8.cell 4 _ rfl
        have g4 := Y8.free 4 (by simp)
        have y5 := Y8.cell 5 _ rfl
        have g5 := Y8.free 5 (by simp)
        have y6 := Y8.cell 6 _ rfl
        have g6 := Y8.free 6 (by simp)
        have y7 := Y8.cell 7 _ rfl
        have g7 := Y8.free 7 (by simp)
        have y8 := Y8.cell 8 _ rfl
        have g8 := Y8.free 8 (by simp)
        have y9 := Y8.cell 9 _ rfl
        have g9 := Y8.free 9 (by simp)
        have y10 := Y8.cell 10 _ rfl
        have g10 := Y8.free 10 (by simp)
        have y11 := Y8.cell 11 _ rfl
        have g11 := Y8.free 11 (by simp)
        have yl := Y8.lt
        have m0 := M8.cell 0 _ rfl
        have m1 := M8.cell 1 _ rfl
        have m2 := M8.cell 2 _ rfl
        have m3 := M8.cell 3 _ rfl
        have m4 := M8.cell 4 _ rfl
        have m5 := M8.cell 5 _ rfl
        have m6 := M8.cell 6 _ rfl
        have m7 := M8.cell 7 _ rfl
        have m8 := M8.cell 8 _ rfl
        have m9 := M8.cell 9 _ rfl
        have m10 := M8.cell 10 _ rfl
        have m11 := M8.cell 11 _ rfl
        have ml := M8.lt
        clear Y8 M8
        cases hlg : largeB (progF p) with
        | true =>
          have hr : R = (pg0, 14) := by rw [HR.out, if_pos hlg]
          clear hlg HR
          subst hr
          go_wp2_with fail
          refine bodyPost_ret (v := .tuple #[pgV pg0 ⟨.slice none 0 0, .slice none 0 0, .slice none 0 0, .slice none 0 0⟩, .int .i64 14]) (by simp [results, Tryz.results7, go_sem, pg0, *]) rfl ?_
          exact ⟨_, rfl, pg0_at _ _, below_one B8.out (set12_turn w8 (w.heap.size + 1) _ _ _ _ _ _ _ _ _ _ _ _) (by omega)⟩
        | false =>
          have hr : R = (progF p, 0) := by rw [HR.out, if_neg (by rw [hlg]; decide)]
          clear hlg HR
          subst hr
          go_wp2_with fail
          refine bodyPost_ret (v := .tuple #[pgV (progF p) ⟨.slice ka L.length kc, .slice aw p.wins.length kw, .slice ar p.crons.length kr, .slice ca D.length cc⟩, .int .i64 0]) (by simp [results, Tryz.results7, go_sem, progF, *]) rfl ?_
          have T := set12_turn w8 (w.heap.size + 1) (.int .i64 (p.mets.length : Nat)) (.int .i64 p.ru.mn) (.int .i64 p.ru.mx) (.int .i64 p.ru.st) (.int .i64 p.ru.up) (.int .i64 p.ru.dn) (.slice ka L.length kc) (.slice aw p.wins.length kw) (.slice ar p.crons.length kr) (.int .i64 p.loc) (.int .i64 (plHgt p : Nat)) (.slice ca D.length cc)
          exact ⟨_, rfl, (PG8.out.keep (fun b hb1 hb => T.block b hb (by simp; omega))).low (by omega), below_one B8.out T (by omega)⟩
    · skip
      rw [if_pos (show Region.wanted _ _ = true from rfl)]
      have HM12 := chid (show MadeAt (w3.drew.alloc (.cells #[.int .i64 0, .int .i64 0, .int .i64 0, .int .i64 0, .int .i64 0, .int .i64 0, .slice none 0 0, .slice none 0 0, .slice none 0 0, .int .i64 0, .int .i64 0, .slice none 0 0] 38)) w3.heap.size w3.heap.size from MadeAt.new (w := w3.drew) (lo := w3.heap.size) K0.out.size)
      have K12 := chid (cbelow_on K0.out (bel_alloc w3.drew (.cells #[.int .i64 0, .int .i64 0, .int .i64 0, .int .i64 0, .int .i64 0, .int .i64 0, .slice none 0 0, .slice none 0 0, .slice none 0 0, .int .i64 0, .int .i64 0, .slice none 0 0] 38)) K0.out.size)
      have HB12a := chid (cbelow_on HB30.out (bel_alloc w3.drew (.cells #[.int .i64 0, .int .i64 0, .int .i64 0, .int .i64 0, .int .i64 0, .int .i64 0, .slice none 0 0, .slice none 0 0, .slice none 0 0, .int .i64 0, .int .i64 0, .slice none 0 0] 38)) HB30.out.size)
      have hS12 := HSk.out _ K12.out
      go_simp
      refine hK.out _ _ hS12 (fun _ => ?_)
      clear hK
      refine wpAnyH_ready (rs := [9]) (by kernel_rfl) (by simp) (AllReadyH.cons (i := 9) (o := { dst := some 21, op := .call { callee := .value (.func 14), args := #[.tmp 20], argTypes := #[25] }, type := 25, pos := "code.go:24", after := #[{ on := 8, ground := .data }], guard := none }) rfl (fun K hK => ?_) AllReadyH.nil)
      refine step_fn rfl (HCw.out (w3.drew.alloc (.cells #[.int .i64 0, .int .i64 0, .int .i64 0, .int .i64 0, .int .i64 0, .int .i64 0, .slice none 0 0, .slice none 0 0, .slice none 0 0, .int .i64 0, .int .i64 0, .slice none 0 0] 38)) HB12a.out) (by first | rfl | go_simp) ?_
      intro u w4 hu
      obtain ⟨ow, b4⟩ := hu
      have bb : Below (w3.drew.alloc (.cells #[.int .i64 0, .int .i64 0, .int .i64 0, .int .i64 0, .int .i64 0, .int .i64 0, .slice none 0 0, .slice none 0 0, .slice none 0 0, .int .i64 0, .int .i64 0, .slice none 0 0] 38)).heap.size (w3.drew.alloc (.cells #[.int .i64 0, .int .i64 0, .int .i64 0, .int .i64 0, .int .i64 0, .int .i64 0, .slice none 0 0, .slice none 0 0, .slice none 0 0, .int .i64 0, .int .i64 0, .slice none 0 0] 38)) w4 := ⟨b4.os, b4.tape, b4.output, b4.size, b4.block⟩
      have K13 := chid (cbelow_on K12.out bb K12.out.size)
      have HB13a := chid (cbelow_on HB12a.out bb HB12a.out.size)
      have HM13 := chid (HM12.out.next bb)
      obtain ⟨aw, kw, rfl⟩ := own_shape ow
      have OW13 : Hid (w4.ownsRow (w.heap.size + 2) 46 4 (.slice aw p.wins.length kw) p.wins.length (rowsF (fun i => wiL (p.wins.getD i wi0)) p.wins.length)) := chid (own_low _ ow (Nat.le_trans h2.out K12.out.size))
      clear ow
      have hS13 := HSk.out _ K13.out
      refine hK.out _ _ hS13 (fun _ => ?_)
      clear hK b4 bb
      refine wpAnyH_ready (rs := [12]) (by kernel_rfl) (by simp) (AllReadyH.cons (i := 12) (o := { dst := some 24, op := .call { callee := .value (.func 15), args := #[.tmp 23], argTypes := #[26] }, type := 26, pos := "code.go:25", after := #[{ on := 11, ground := .data }, { on := 9, ground := .chain }], guard := none }) rfl (fun K hK => ?_) AllReadyH.nil)
      refine step_fn rfl (HCc.out w4 HB13a.out) (by first | rfl | go_simp) ?_
      intro u w5 hu
      obtain ⟨ow, b4⟩ := hu
      have bb : Below w4.heap.size w4 w5 := ⟨b4.os, b4.tape, b4.output, b4.size, b4.block⟩
      have K14 := chid (cbelow_on K13.out bb K13.out.size)
      have HB14a := chid (cbelow_on HB13a.out bb HB13a.out.size)
      have HM14 := chid (HM13.out.next bb)
      have OW14 := chid (own_keep OW13.out (fun b _ hb => bb.block b hb))
      obtain ⟨ar, kr, rfl⟩ := own_shape ow
      have OR14 : Hid (w5.ownsRow (w.heap.size + 2) 49 5 (.slice ar p.crons.length kr) p.crons.length (rowsF (fun i => crL (p.crons.getD i cr0)) p.crons.length)) := chid (own_low _ ow (Nat.le_trans h2.out K13.out.size))
      clear ow
      have hS14 := HSk.out _ K14.out
      refine hK.out _ _ hS14 (fun _ => ?_)
      clear hK b4 bb
      refine wpAnyH_ready (rs := [16]) (by kernel_rfl) (by simp) (AllReadyH.cons (i := 16) (o := { dst := some 28, op := .call { callee := .value (.func 16), args := #[.tmp 27], argTypes := #[32] }, type := 3, pos := "code.go:27", after := #[{ on := 15, ground := .data }, { on := 12, ground := .chain }], guard := none }) rfl (fun K hK => ?_) AllReadyH.nil)
      refine step_fn rfl (HPh2.out w5 HB14a.out) (by first | rfl | go_simp) ?_
      intro u w6 hu
      obtain ⟨rfl, b4⟩ := hu
      have bb : Below w5.heap.size w5 w6 := ⟨b4.os, b4.tape, b4.output, b4.size, b4.block⟩
      have K15 := chid (cbelow_on K14.out bb K14.out.size)
      have HB15a := chid (cbelow_on HB14a.out bb HB14a.out.size)
      have HM15 := chid (HM14.out.next bb)
      have OW15 := chid (own_keep OW14.out (fun b _ hb => bb.block b hb))
      have OR15 := chid (own_keep OR14.out (fun b _ hb => bb.block b hb))
      have hS15 := HSk.out _ K15.out
      refine hK.out _ _ hS15 (fun _ => ?_)
      clear hK b4 bb
      obtain ⟨X, hX⟩ : ∃ X : Array Value, Hid (X = #[.int .i64 (p.mets.length : Nat), .int .i64 p.ru.mn, .int .i64 p.ru.mx, .int .i64 p.ru.st, .int .i64 p.ru.up, .int .i64 p.ru.dn, .slice ka L.length kc, .slice aw p.wins.length kw, .slice ar p.crons.length kr, .int .i64 p.loc, .int .i64 (plHgt p : Nat), .slice ca D.length cc]) := ⟨_, chid rfl⟩
      have hXs : X.size = 12 := by rw [hX.out]; rfl
      have hX1 : Hid (∀ v, v ∈ X.toList → v.oneCell' = true) := chid (by rw [hX.out]; intro v hv; simp only [List.mem_cons, List.not_mem_nil, or_false] at hv; rcases hv with rfl | rfl | rfl | rfl | rfl | rfl | rfl | rfl | rfl | rfl | rfl | rfl <;> rfl)
      refine wpAnyH_take (i := 19) (v := .agg X) rfl (by kernel_rfl) (by kernel_rfl) (by kernel_rfl) (fun _ _ _ h => h) (Or.inl ⟨rfl, fun w' hS' => ?_⟩) hS15 ?_
      · clear hS'
        rw [hX.out]
        go_simp
      refine wpAnyH_ready (rs := [21]) (by kernel_rfl) (by simp) (AllReadyH.cons (i := 21) (o := { dst := none, op := .store 38 (.tmp 5) (.tmp 31), type := 0, pos := "code.go:20", after := #[{ on := 20, ground := .data }, { on := 19, ground := .data }, { on := 16, ground := .chain }, { on := 0, ground := .phase }, { on := 1, ground := .phase }, { on := 2, ground := .phase }, { on := 3, ground := .phase }, { on := 4, ground := .phase }, { on := 5, ground := .phase }, { on := 6, ground := .phase }, { on := 7, ground := .phase }, { on := 8, ground := .phase }, { on := 9, ground := .phase }, { on := 10, ground := .phase }, { on := 11, ground := .phase }, { on := 12, ground := .phase }, { on := 13, ground := .phase }, { on := 14, ground := .phase }, { on := 15, ground := .phase }, { on := 16, ground := .phase }, { on := 17, ground := .phase }, { on := 18, ground := .phase }, { on := 19, ground := .phase }, { on := 20, ground := .phase }], guard := none }) rfl (fun K hK => ?_) AllReadyH.nil)
      rw [if_pos (show Region.wanted _ _ = true from rfl)]
      have HS1 := store_made HM15.out X hXs hX1.out
      have hl12 : X.toList.length = 12 := by rw [Array.length_toList]; exact hXs
      obtain ⟨mb1, mt⟩ := setCells_box _ X.toList 0 _ _ HM15.out.box (by rw [hl12]; rfl)
      rw [List.take_zero, List.nil_append] at mb1
      have mg := HM15.out.ge
      have mty := HM15.out.ty
      have mlt := HM15.out.box.lt
      have K16x := chid (K15.out.trans (mt.below (fun k hk => by rw [List.mem_singleton.1 hk]; exact mg) K15.out.size))
      have hS16x := HSk.out _ K16x.out
      simp [go_sem, hXs, HS1]
      refine hK.out _ _ hS16x (fun _ => ?_)
      clear hK HS1
      generalize hW7 : World.setCells _ _ _ _ = W7 at *
      have MB : Box W7 _ X.toList := mb1
      have PG : PgAt W7 (w.heap.size + 2) (progF p) ⟨.slice ka L.length kc, .slice aw p.wins.length kw, .slice ar p.crons.length kr, .slice ca D.length cc⟩ := by
        have e1 : L = (progF p).K := hL.out
        have e2 : D = (progF p).C := hD.out
        rw [e1, e2]
        have hc := own_keep HCC.out (fun b _ hb => K15.out.block b hb)
        have hc2 := own_keep HCK.out (fun b _ hb => K15.out.block b hb)
        rw [e2] at hc
        rw [e1] at hc2
        exact ⟨own_set hc2 mty (by decide) mt, own_set OW15.out mty (by decide) mt, own_set OR15.out mty (by decide) mt, own_set hc mty (by decide) mt⟩
      have B7 : Below w.heap.size w W7 := HB15a.out.trans (mt.below (fun k hk => by rw [List.mem_singleton.1 hk]; exact Nat.le_trans HB3.out.size mg) HB15a.out.size)
      have Y7 := (HY3.out.later K16x.out HY3.out.lt)
      have hXe : X = #[.int .i64 (p.mets.length : Nat), .int .i64 p.ru.mn, .int .i64 p.ru.mx, .int .i64 p.ru.st, .int .i64 p.ru.up, .int .i64 p.ru.dn, .slice ka L.length kc, .slice aw p.wins.length kw, .slice ar p.crons.length kr, .int .i64 p.loc, .int .i64 (plHgt p : Nat), .slice ca D.length cc] := hX.out
      clear hX hX1 hXs
      subst hXe
      have m0 := MB.cell 0 _ rfl
      have m1 := MB.cell 1 _ rfl
      have m2 := MB.cell 2 _ rfl
      have m3 := MB.cell 3 _ rfl
      have m4 := MB.cell 4 _ rfl
      have m5 := MB.cell 5 _ rfl
      have m6 := MB.cell 6 _ rfl
      have m7 := MB.cell 7 _ rfl
      have m8 := MB.cell 8 _ rfl
      have m9 := MB.cell 9 _ rfl
      have m10 := MB.cell 10 _ rfl
      have m11 := MB.cell 11 _ rfl
      have ml := MB.lt
      have HLg := chid (large_c (progF p) _ _ _ PG)
      have HPG := chid PG
      have HB7 := chid B7
      have HY7 := chid Y7
      have HMB := chid MB
      clear MB PG B7 Y7
      refine wpAnyH_done (by kernel_rfl) ?_ _
      go_wp2_with fail
      refine Calls.mono HLg.out ?_
      rintro e w8 ⟨rfl, b8⟩
      have B8 := chid (cbelow_on HB7.out b8 HB7.out.size)
      have PG8 := chid (HPG.out.keep (fun b _ hb => b8.block b hb))
      have Y8 := HY7.out.next b8
      have M8 := HMB.out.next b8
      clear m0 m1 m2 m3 m4 m5 m6 m7 m8 m9 m10 m11 ml b8 HLg HPG HB7
      have y0 := Y8.cell 0 _ rfl
      have g0 := Y8.free 0 (by simp)
      have y1 := Y8.cell 1 _ rfl
      have g1 := Y8.free 1 (by simp)
      have y2 := Y8.cell 2 _ rfl
      have g2 := Y8.free 2 (by simp)
      have y3 := Y8.cell 3 _ rfl
      have g3 := Y8.free 3 (by simp)
      have y4 := Y8.cell 4 _ rfl
      have g4 := Y8.free 4 (by simp)
      have y5 := Y8.cell 5 _ rfl
      have g5 := Y8.free 5 (by simp)
      have y6 := Y8.cell 6 _ rfl
      have g6 := Y8.free 6 (by simp)
      have y7 := Y8.cell 7 _ rfl
      have g7 := Y8.free 7 (by simp)
      have y8 := Y8.cell 8 _ rfl
      have g8 := Y8.free 8 (by simp)
      have y9 := Y8.cell 9 _ rfl
      have g9 := Y8.free 9 (by simp)
      have y10 := Y8.cell 10 _ rfl
      have g10 := Y8.free 10 (by simp)
      have y11 := Y8.cell 11 _ rfl
      have g11 := Y8.free 11 (by simp)
      have yl := Y8.lt
      have m0 := M8.cell 0 _ rfl
      have m1 := M8.cell 1 _ rfl
      have m2 := M8.cell 2 _ rfl
      have m3 := M8.cell 3 _ rfl
      have m4 := M8.cell 4 _ rfl
      have m5 := M8.cell 5 _ rfl
      have m6 := M8.cell 6 _ rfl
      have m7 := M8.cell 7 _ rfl
      have m8 := M8.cell 8 _ rfl
      have m9 := M8.cell 9 _ rfl
      have m10 := M8.cell 10 _ rfl
      have m11 := M8.cell 11 _ rfl
      have ml := M8.lt
      clear Y8 M8
      cases hlg : largeB (progF p) with
      | true =>
        have hr : R = (pg0, 14) := by rw [HR.out, if_pos hlg]
        clear hlg HR
        subst hr
        go_wp2_with fail
        refine bodyPost_ret (v := .tuple #[pgV pg0 ⟨.slice none 0 0, .slice none 0 0, .slice none 0 0, .slice none 0 0⟩, .int .i64 14]) (by simp [results, Tryz.results7, go_sem, pg0, *]) rfl ?_
        exact ⟨_, rfl, pg0_at _ _, below_one B8.out (set12_turn w8 (w.heap.size + 1) _ _ _ _ _ _ _ _ _ _ _ _) (by omega)⟩
      | false =>
        have hr : R = (progF p, 0) := by rw [HR.out, if_neg (by rw [hlg]; decide)]
        clear hlg HR
        subst hr
        go_wp2_with fail
        refine bodyPost_ret (v := .tuple #[pgV (progF p) ⟨.slice ka L.length kc, .slice aw p.wins.length kw, .slice ar p.crons.length kr, .slice ca D.length cc⟩, .int .i64 0]) (by simp [results, Tryz.results7, go_sem, progF, *]) rfl ?_
        have T := set12_turn w8 (w.heap.size + 1) (.int .i64 (p.mets.length : Nat)) (.int .i64 p.ru.mn) (.int .i64 p.ru.mx) (.int .i64 p.ru.st) (.int .i64 p.ru.up) (.int .i64 p.ru.dn) (.slice ka L.length kc) (.slice aw p.wins.length kw) (.slice ar p.crons.length kr) (.int .i64 p.loc) (.int .i64 (plHgt p : Nat)) (.slice ca D.length cc)
        exact ⟨_, rfl, (PG8.out.keep (fun b hb1 hb => T.block b hb (by simp; omega))).low (by omega), below_one B8.out T (by omega)⟩
end Go.Proofs.YtigldebdljfnbaaGreatDoor

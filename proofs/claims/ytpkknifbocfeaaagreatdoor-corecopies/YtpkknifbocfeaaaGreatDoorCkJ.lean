/- Package core: Copy, walked. -/
import Derived.Test.YtpkknifbocfeaaaGreatDoorCkI
namespace Go.Proofs.YtpkknifbocfeaaaGreatDoor
open Go.RowKit

set_option maxHeartbeats 8000000 in
set_option maxRecDepth 20000 in
theorem copy_c (hcl : ∀ (s : ByteArray) (W : World), s.size ≤ 140737488355328 → Calls Tryz.prog 31 #[.string s] W fun e w' => e = .returned (.string s) ∧ Below W.heap.size W w') (p : PlP) (v : PlV) (w : World) (hs : PlAt w p v) (hp : PWt p) :
    Calls Tryz.prog 11 #[plV p v] w fun e w' => ∃ (u : PlV) (s0 s1 s2 s3 s4 s5 : Nat), e = .returned (plV p u) ∧ CopP w' p u s0 s1 s2 s3 s4 s5 ∧ w.heap.size ≤ s0 ∧ Below w.heap.size w w' := by
  have HE1 := chid (fun W (hW : Below w.heap.size w W) => eachS_c hcl p.mets hp.me hp.st v.me W (RowsK.next hs.me hW))
  have HE2 := chid (fun W (hW : Below w.heap.size w W) => cloneWi_c p.wins hp.wi v.wi W (RowsK.next hs.wi hW))
  have HE3 := chid (fun W (hW : Below w.heap.size w W) => cloneCr_c p.crons hp.cr v.cr W (RowsK.next hs.cr hW))
  have HE4 := chid (fun W (hW : Below w.heap.size w W) => eachG_c p.gs hp.gs hp.co v.gs W (hs.gs.next hW))
  have HE5 := chid (fun W (hW : Below w.heap.size w W) => copyCore_c p.fin hp.fi v.fi W (hs.fi.next hW))
  obtain ⟨a1, c1, a2, c2, a3, c3, a4, c4, a5, c5, rfl, g1, g2, g3, g4⟩ := hs.shapes
  obtain ⟨Y0, Y1, Y2⟩ := two_boxes w 32 32 [.slice a1 p.mets.length c1, .int .i64 p.ru.mn, .int .i64 p.ru.mx, .int .i64 p.ru.st, .int .i64 p.ru.up, .int .i64 p.ru.dn, .slice a2 p.wins.length c2, .slice a3 p.crons.length c3, .int .i64 p.loc, .slice a4 p.gs.length c4, .int .i64 p.fin.op, .int .i64 p.fin.n, .int .i64 p.fin.m, .slice a5 p.fin.parts.length c5] [.slice none 0 0, .int .i64 0, .int .i64 0, .int .i64 0, .int .i64 0, .int .i64 0, .slice none 0 0, .slice none 0 0, .int .i64 0, .slice none 0 0, .int .i64 0, .int .i64 0, .int .i64 0, .slice none 0 0]
  have HY0 := chid Y0
  have HY1 := chid Y1
  have B0 := chid Y2
  have HG := chid hs.gs
  have HFi := chid hs.fi
  have hsz : Hid (w.heap.size + 1 + 1 ≤ ((w.alloc (.cells [.slice a1 p.mets.length c1, .int .i64 p.ru.mn, .int .i64 p.ru.mx, .int .i64 p.ru.st, .int .i64 p.ru.up, .int .i64 p.ru.dn, .slice a2 p.wins.length c2, .slice a3 p.crons.length c3, .int .i64 p.loc, .slice a4 p.gs.length c4, .int .i64 p.fin.op, .int .i64 p.fin.n, .int .i64 p.fin.m, .slice a5 p.fin.parts.length c5].toArray 32)).alloc (.cells [.slice none 0 0, .int .i64 0, .int .i64 0, .int .i64 0, .int .i64 0, .int .i64 0, .slice none 0 0, .slice none 0 0, .int .i64 0, .slice none 0 0, .int .i64 0, .int .i64 0, .int .i64 0, .slice none 0 0].toArray 32)).heap.size) := chid (by simp)
  clear hs Y0 Y1 Y2 hcl hp g1 g2 g3 g4
  have x0 := HY0.out.cell 0 _ rfl
  have xl := HY0.out.lt
  go_enter Tryz.func11, Tryz.ntmps11
  go_wp2_with fail
  obtain ⟨S0, hS0⟩ : ∃ S0, Hid (S0 = w.heap.size + 1 + 1) := ⟨_, rfl⟩
  have Z0 : Hid (w.heap.size + 1 + 1 ≤ S0) := chid (by rw [hS0.out]; exact Nat.le_refl _)
  refine Calls.mono (HE1.out _ B0.out) ?_
  rintro e w1 ⟨u1, rfl, o, b⟩
  have F1 := chid (RowIn.of (own_low S0 o (by rw [hS0.out]; simp)) (Nat.le_trans (by rw [hS0.out]; simp) b.size))
  obtain ⟨S1, hS1⟩ : ∃ S, Hid (S = w1.heap.size) := ⟨_, rfl⟩
  rw [← hS1.out] at F1
  have T1 : Hid (S1 ≤ w1.heap.size) := chid (by rw [hS1.out]; exact Nat.le_refl _)
  have Z1 : Hid (w.heap.size + 1 + 1 ≤ S1) := chid (by rw [hS1.out]; exact Nat.le_trans (by simp) b.size)
  obtain ⟨d1, e1, rfl⟩ := own_shape o
  have C1 := chid (cbelow_on B0.out b B0.out.size)
  replace HY0 := chid (HY0.out.next b)
  replace HY1 := chid (HY1.out.next b)
  clear x0 xl b o B0 HE1
  have x0 := HY0.out.cell 0 _ rfl
  have x1 := HY0.out.cell 6 _ rfl
  have f0 := HY0.out.free 0 (by simp)
  have xl := HY0.out.lt
  go_wp2_with fail
  have B1 := chid (C1.out.setCell (p := ⟨w.heap.size, 0, none⟩) (Nat.le_refl _) (.slice d1 p.mets.length e1))
  have TT := Turn.set (S := [w.heap.size]) w1 ⟨w.heap.size, 0, none⟩ (.slice d1 p.mets.length e1) (by simp)
  replace HY0 := chid (HY0.out.set 0 (by simp) (.slice d1 p.mets.length e1))
  replace HY1 := chid (HY1.out.other (q := w.heap.size) (j := 0) (v := (.slice d1 p.mets.length e1)) (by omega))
  replace F1 := chid (F1.out.keep (fun x h1 hx => TT.block x (by have := T1.out; omega) (by have := Z0.out; simp; omega)))
  replace T1 : Hid (S1 ≤ _) := Nat.le_trans T1.out TT.size
  generalize w1.setCell ⟨w.heap.size, 0, none⟩ (.slice d1 p.mets.length e1) = v1 at *
  have T10 : Hid (S1 ≤ v1.heap.size) := T1
  clear TT C1 hS1
  refine Calls.mono (HE2.out _ B1.out) ?_
  rintro e w2 ⟨u2, rfl, o, b⟩
  replace F1 := chid (F1.out.keep (fun x _ hx => b.block x (by have := T1.out; omega)))
  replace T1 : Hid (S1 ≤ w2.heap.size) := Nat.le_trans T1.out b.size
  have F2 := chid (RowIn.of (own_low S1 o T10.out) (Nat.le_trans T10.out b.size))
  obtain ⟨S2, hS2⟩ : ∃ S, Hid (S = w2.heap.size) := ⟨_, rfl⟩
  rw [← hS2.out] at F2
  have T2 : Hid (S2 ≤ w2.heap.size) := chid (by rw [hS2.out]; exact Nat.le_refl _)
  have Z2 : Hid (w.heap.size + 1 + 1 ≤ S2) := chid (by rw [hS2.out]; exact Nat.le_trans (Nat.le_trans Z1.out T10.out) b.size)
  obtain ⟨d2, e2, rfl⟩ := own_shape o
  have C2 := chid (cbelow_on B1.out b B1.out.size)
  replace HY0 := chid (HY0.out.next b)
  replace HY1 := chid (HY1.out.next b)
  clear x0 xl b o B1 HE2 x1 f0
  have x0 := HY0.out.cell 6 _ rfl
  have x1 := HY0.out.cell 7 _ rfl
  have f0 := HY0.out.free 6 (by simp)
  have xl := HY0.out.lt
  go_wp2_with fail
  have B2 := chid (C2.out.setCell (p := ⟨w.heap.size, 6, none⟩) (Nat.le_refl _) (.slice d2 p.wins.length e2))
  have TT := Turn.set (S := [w.heap.size]) w2 ⟨w.heap.size, 6, none⟩ (.slice d2 p.wins.length e2) (by simp)
  replace HY0 := chid (HY0.out.set 6 (by simp) (.slice d2 p.wins.length e2))
  replace HY1 := chid (HY1.out.other (q := w.heap.size) (j := 6) (v := (.slice d2 p.wins.length e2)) (by omega))
  replace F1 := chid (F1.out.keep (fun x h1 hx => TT.block x (by have := T1.out; omega) (by have := Z0.out; simp; omega)))
  replace F2 := chid (F2.out.keep (fun x h1 hx => TT.block x (by have := T2.out; omega) (by have := Z1.out; simp; omega)))
  replace T1 : Hid (S1 ≤ _) := Nat.le_trans T1.out TT.size
  replace T2 : Hid (S2 ≤ _) := Nat.le_trans T2.out TT.size
  generalize w2.setCell ⟨w.heap.size, 6, none⟩ (.slice d2 p.wins.length e2) = v2 at *
  have T20 : Hid (S2 ≤ v2.heap.size) := T2
  clear TT C2 hS2
  refine Calls.mono (HE3.out _ B2.out) ?_
  rintro e w3 ⟨u3, rfl, o, b⟩
  replace F1 := chid (F1.out.keep (fun x _ hx => b.block x (by have := T1.out; omega)))
  replace F2 := chid (F2.out.keep (fun x _ hx => b.block x (by have := T2.out; omega)))
  replace T1 : Hid (S1 ≤ w3.heap.size) := Nat.le_trans T1.out b.size
  replace T2 : Hid (S2 ≤ w3.heap.size) := Nat.le_trans T2.out b.size
  have F3 := chid (RowIn.of (own_low S2 o T20.out) (Nat.le_trans T20.out b.size))
  obtain ⟨S3, hS3⟩ : ∃ S, Hid (S = w3.heap.size) := ⟨_, rfl⟩
  rw [← hS3.out] at F3
  have T3 : Hid (S3 ≤ w3.heap.size) := chid (by rw [hS3.out]; exact Nat.le_refl _)
  have Z3 : Hid (w.heap.size + 1 + 1 ≤ S3) := chid (by rw [hS3.out]; exact Nat.le_trans (Nat.le_trans Z2.out T20.out) b.size)
  obtain ⟨d3, e3, rfl⟩ := own_shape o
  have C3 := chid (cbelow_on B2.out b B2.out.size)
  replace HY0 := chid (HY0.out.next b)
  replace HY1 := chid (HY1.out.next b)
  clear x0 xl b o B2 HE3 x1 f0
  have x0 := HY0.out.cell 7 _ rfl
  have x1 := HY0.out.cell 9 _ rfl
  have f0 := HY0.out.free 7 (by simp)
  have xl := HY0.out.lt
  go_wp2_with fail
  have B3 := chid (C3.out.setCell (p := ⟨w.heap.size, 7, none⟩) (Nat.le_refl _) (.slice d3 p.crons.length e3))
  have TT := Turn.set (S := [w.heap.size]) w3 ⟨w.heap.size, 7, none⟩ (.slice d3 p.crons.length e3) (by simp)
  replace HY0 := chid (HY0.out.set 7 (by simp) (.slice d3 p.crons.length e3))
  replace HY1 := chid (HY1.out.other (q := w.heap.size) (j := 7) (v := (.slice d3 p.crons.length e3)) (by omega))
  replace F1 := chid (F1.out.keep (fun x h1 hx => TT.block x (by have := T1.out; omega) (by have := Z0.out; simp; omega)))
  replace F2 := chid (F2.out.keep (fun x h1 hx => TT.block x (by have := T2.out; omega) (by have := Z1.out; simp; omega)))
  replace F3 := chid (F3.out.keep (fun x h1 hx => TT.block x (by have := T3.out; omega) (by have := Z2.out; simp; omega)))
  replace T1 : Hid (S1 ≤ _) := Nat.le_trans T1.out TT.size
  replace T2 : Hid (S2 ≤ _) := Nat.le_trans T2.out TT.size
  replace T3 : Hid (S3 ≤ _) := Nat.le_trans T3.out TT.size
  generalize w3.setCell ⟨w.heap.size, 7, none⟩ (.slice d3 p.crons.length e3) = v3 at *
  have T30 : Hid (S3 ≤ v3.heap.size) := T3
  clear TT C3 hS3
  refine Calls.mono (HE4.out _ B3.out) ?_
  rintro e w4 ⟨u4, rfl, oa, o, b⟩
  replace F1 := chid (F1.out.keep (fun x _ hx => b.block x (by have := T1.out; omega)))
  replace F2 := chid (F2.out.keep (fun x _ hx => b.block x (by have := T2.out; omega)))
  replace F3 := chid (F3.out.keep (fun x _ hx => b.block x (by have := T3.out; omega)))
  replace T1 : Hid (S1 ≤ w4.heap.size) := Nat.le_trans T1.out b.size
  replace T2 : Hid (S2 ≤ w4.heap.size) := Nat.le_trans T2.out b.size
  replace T3 : Hid (S3 ≤ w4.heap.size) := Nat.le_trans T3.out b.size
  have F4 := chid (GRow.wide o T30.out)
  obtain ⟨S4, hS4⟩ : ∃ S, Hid (S = w4.heap.size) := ⟨_, rfl⟩
  rw [← hS4.out] at F4
  have T4 : Hid (S4 ≤ w4.heap.size) := chid (by rw [hS4.out]; exact Nat.le_refl _)
  have Z4 : Hid (w.heap.size + 1 + 1 ≤ S4) := chid (by rw [hS4.out]; exact Nat.le_trans (Nat.le_trans Z3.out T30.out) b.size)
  obtain ⟨d4, e4, rfl, -, -⟩ := oa.shape'
  have C4 := chid (cbelow_on B3.out b B3.out.size)
  replace HY0 := chid (HY0.out.next b)
  replace HY1 := chid (HY1.out.next b)
  clear x0 xl b o oa B3 HE4 x1 f0
  have x0 := HY0.out.cell 9 _ rfl
  have x1 := HY0.out.cell 10 _ rfl
  have x2 := HY0.out.cell 11 _ rfl
  have x3 := HY0.out.cell 12 _ rfl
  have x4 := HY0.out.cell 13 _ rfl
  have f0 := HY0.out.free 9 (by simp)
  have xl := HY0.out.lt
  go_wp2_with fail
  have B4 := chid (C4.out.setCell (p := ⟨w.heap.size, 9, none⟩) (Nat.le_refl _) (.slice d4 p.gs.length e4))
  have TT := Turn.set (S := [w.heap.size]) w4 ⟨w.heap.size, 9, none⟩ (.slice d4 p.gs.length e4) (by simp)
  replace HY0 := chid (HY0.out.set 9 (by simp) (.slice d4 p.gs.length e4))
  replace HY1 := chid (HY1.out.other (q := w.heap.size) (j := 9) (v := (.slice d4 p.gs.length e4)) (by omega))
  replace F1 := chid (F1.out.keep (fun x h1 hx => TT.block x (by have := T1.out; omega) (by have := Z0.out; simp; omega)))
  replace F2 := chid (F2.out.keep (fun x h1 hx => TT.block x (by have := T2.out; omega) (by have := Z1.out; simp; omega)))
  replace F3 := chid (F3.out.keep (fun x h1 hx => TT.block x (by have := T3.out; omega) (by have := Z2.out; simp; omega)))
  replace F4 := chid (GRow.keep TT.size (fun x h1 hx => TT.block x (by have := T4.out; omega) (by have := Z3.out; simp; omega)) F4.out)
  replace T1 : Hid (S1 ≤ _) := Nat.le_trans T1.out TT.size
  replace T2 : Hid (S2 ≤ _) := Nat.le_trans T2.out TT.size
  replace T3 : Hid (S3 ≤ _) := Nat.le_trans T3.out TT.size
  replace T4 : Hid (S4 ≤ _) := Nat.le_trans T4.out TT.size
  generalize w4.setCell ⟨w.heap.size, 9, none⟩ (.slice d4 p.gs.length e4) = v4 at *
  have T40 : Hid (S4 ≤ v4.heap.size) := T4
  clear TT C4 hS4
  refine Calls.mono (HE5.out _ B4.out) ?_
  rintro e w5 ⟨u5, rfl, oa, o, b⟩
  replace F1 := chid (F1.out.keep (fun x _ hx => b.block x (by have := T1.out; omega)))
  replace F2 := chid (F2.out.keep (fun x _ hx => b.block x (by have := T2.out; omega)))
  replace F3 := chid (F3.out.keep (fun x _ hx => b.block x (by have := T3.out; omega)))
  replace F4 := chid (GRow.keep b.size (fun x _ hx => b.block x (by have := T4.out; omega)) F4.out)
  replace T1 : Hid (S1 ≤ w5.heap.size) := Nat.le_trans T1.out b.size
  replace T2 : Hid (S2 ≤ w5.heap.size) := Nat.le_trans T2.out b.size
  replace T3 : Hid (S3 ≤ w5.heap.size) := Nat.le_trans T3.out b.size
  replace T4 : Hid (S4 ≤ w5.heap.size) := Nat.le_trans T4.out b.size
  have F5 := chid (o.wide T40.out (Nat.le_refl _))
  obtain ⟨S5, hS5⟩ : ∃ S, Hid (S = w5.heap.size) := ⟨_, rfl⟩
  rw [← hS5.out] at F5
  have T5 : Hid (S5 ≤ w5.heap.size) := chid (by rw [hS5.out]; exact Nat.le_refl _)
  have Z5 : Hid (w.heap.size + 1 + 1 ≤ S5) := chid (by rw [hS5.out]; exact Nat.le_trans (Nat.le_trans Z4.out T40.out) b.size)
  obtain ⟨d5, e5, rfl, -, -⟩ := oa.parts.shape
  have C5 := chid (cbelow_on B4.out b B4.out.size)
  replace HY0 := chid (HY0.out.next b)
  replace HY1 := chid (HY1.out.next b)
  clear x0 xl b o oa B4 HE5 x1 f0 x2 x3 x4
  have key : Hid (∀ W, Turn [w.heap.size, w.heap.size + 1] w5 W → ∃ (u : PlV) (s0 s1 s2 s3 s4 s5 : Nat), Ending.returned (plV p ⟨.slice d1 p.mets.length e1, .slice d2 p.wins.length e2, .slice d3 p.crons.length e3, .slice d4 p.gs.length e4, .slice d5 p.fin.parts.length e5⟩) = .returned (plV p u) ∧ CopP W p u s0 s1 s2 s3 s4 s5 ∧ w.heap.size ≤ s0 ∧ Below w.heap.size w W) := by
    show ∀ W, _
    intro W T
    have hz := T.size
    have G1 := F1.out.keep (fun x h1 hx => T.block x (by have := T1.out; omega) (by have := Z0.out; simp; omega))
    have G2 := F2.out.keep (fun x h1 hx => T.block x (by have := T2.out; omega) (by have := Z1.out; simp; omega))
    have G3 := F3.out.keep (fun x h1 hx => T.block x (by have := T3.out; omega) (by have := Z2.out; simp; omega))
    have G4 := GRow.keep T.size (fun x h1 hx => T.block x (by have := T4.out; omega) (by have := Z3.out; simp; omega)) F4.out
    have G5 := CNew.keep T.size p.fin _ _ _ (fun x h1 hx => T.block x (by have := T5.out; omega) (by have := Z4.out; simp; omega)) F5.out
    exact ⟨⟨.slice d1 p.mets.length e1, .slice d2 p.wins.length e2, .slice d3 p.crons.length e3, .slice d4 p.gs.length e4, .slice d5 p.fin.parts.length e5⟩, S0, S1, S2, S3, S4, S5, rfl, ⟨G1, G2, G3, G4, G5, csits_of_new p.fin _ _ _ _ HFi.out G5, gat_of_row HG.out G4, Nat.le_trans T5.out hz⟩, by have := Z0.out; omega, ⟨T.os.trans C5.out.os, T.tape.trans C5.out.tape, T.output.trans C5.out.output, Nat.le_trans C5.out.size hz, fun k hk => (T.block k (Nat.lt_of_lt_of_le hk C5.out.size) (by simp; omega)).trans (C5.out.block k hk)⟩⟩
  have x0 := HY0.out.cell 0 _ rfl
  have y0 := HY1.out.cell 0 _ rfl
  have g0 := HY1.out.free 0 (by simp)
  have x1 := HY0.out.cell 1 _ rfl
  have y1 := HY1.out.cell 1 _ rfl
  have g1 := HY1.out.free 1 (by simp)
  have x2 := HY0.out.cell 2 _ rfl
  have y2 := HY1.out.cell 2 _ rfl
  have g2 := HY1.out.free 2 (by simp)
  have x3 := HY0.out.cell 3 _ rfl
  have y3 := HY1.out.cell 3 _ rfl
  have g3 := HY1.out.free 3 (by simp)
  have x4 := HY0.out.cell 4 _ rfl
  have y4 := HY1.out.cell 4 _ rfl
  have g4 := HY1.out.free 4 (by simp)
  have x5 := HY0.out.cell 5 _ rfl
  have y5 := HY1.out.cell 5 _ rfl
  have g5 := HY1.out.free 5 (by simp)
  have x6 := HY0.out.cell 6 _ rfl
  have y6 := HY1.out.cell 6 _ rfl
  have g6 := HY1.out.free 6 (by simp)
  have x7 := HY0.out.cell 7 _ rfl
  have y7 := HY1.out.cell 7 _ rfl
  have g7 := HY1.out.free 7 (by simp)
  have x8 := HY0.out.cell 8 _ rfl
  have y8 := HY1.out.cell 8 _ rfl
  have g8 := HY1.out.free 8 (by simp)
  have x9 := HY0.out.cell 9 _ rfl
  have y9 := HY1.out.cell 9 _ rfl
  have g9 := HY1.out.free 9 (by simp)
  have x10 := HY0.out.cell 10 _ rfl
  have y10 := HY1.out.cell 10 _ rfl
  have g10 := HY1.out.free 10 (by simp)
  have x11 := HY0.out.cell 11 _ rfl
  have y11 := HY1.out.cell 11 _ rfl
  have g11 := HY1.out.free 11 (by simp)
  have x12 := HY0.out.cell 12 _ rfl
  have y12 := HY1.out.cell 12 _ rfl
  have g12 := HY1.out.free 12 (by simp)
  have x13 := HY0.out.cell 13 _ rfl
  have y13 := HY1.out.cell 13 _ rfl
  have g13 := HY1.out.free 13 (by simp)
  have f10 := HY0.out.free 10 (by simp)
  have f11 := HY0.out.free 11 (by simp)
  have f12 := HY0.out.free 12 (by simp)
  have f13 := HY0.out.free 13 (by simp)
  have xl := HY0.out.lt
  have yl := HY1.out.lt
  clear F1 T1 Z1 F2 T2 Z2 F3 T3 Z3 F4 T4 Z4 F5 T5 Z5 HFi HG hsz Z0 hS0 T10 T20 T30 T40 hS5
  go_wp2_with fail
  refine bodyPost_ret (v := plV p ⟨.slice d1 p.mets.length e1, .slice d2 p.wins.length e2, .slice d3 p.crons.length e3, .slice d4 p.gs.length e4, .slice d5 p.fin.parts.length e5⟩) (by simp [results, Tryz.results11, go_sem, *]) rfl ?_
  exact key.out _ (turn_tr (turn_tr (turn_tr (turn_tr (turn_tr (turn_tr (turn_tr (turn_tr (turn_tr (turn_tr (turn_tr (turn_tr (turn_tr (turn_tr (turn_tr (turn_tr (turn_tr (Turn.set w5 _ _ (by simp)) (Turn.set _ _ _ (by simp))) (Turn.set _ _ _ (by simp))) (Turn.set _ _ _ (by simp))) (Turn.set _ _ _ (by simp))) (Turn.set _ _ _ (by simp))) (Turn.set _ _ _ (by simp))) (Turn.set _ _ _ (by simp))) (Turn.set _ _ _ (by simp))) (Turn.set _ _ _ (by simp))) (Turn.set _ _ _ (by simp))) (Turn.set _ _ _ (by simp))) (Turn.set _ _ _ (by simp))) (Turn.set _ _ _ (by simp))) (Turn.set _ _ _ (by simp))) (Turn.set _ _ _ (by simp))) (Turn.set _ _ _ (by simp))) (Turn.set _ _ _ (by simp)))
end Go.Proofs.YtpkknifbocfeaaaGreatDoor

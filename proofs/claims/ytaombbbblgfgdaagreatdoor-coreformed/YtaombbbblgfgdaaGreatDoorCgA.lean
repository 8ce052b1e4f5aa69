/- The law CoreFormed, walked. -/
import Derived.Test.YtaombbbblgfgdaaGreatDoorCeF
import Derived.Test.YtaombbbblgfgdaaGreatDoorMgG
namespace Go.Proofs.YtaombbbblgfgdaaGreatDoor
open Go.RowKit

set_option maxHeartbeats 8000000 in
set_option maxRecDepth 20000 in
theorem coreFormed_c (p : PlP) (v : PlV) (r : RuP) (w : World) (hs : PlAt w p v) (hL : p.gs.length * 96 ≤ 140737488355328) (hF : FldAt w) (hg : GlE w) : Calls Tryz.prog 3 #[plV p v, ruV r] w fun e w' => e = .returned (.bool true) ∧ Below w.heap.size w w' := by
  obtain ⟨q, hq⟩ := coeq_ex
  have HAw := chid (fun W (hW : Below w.heap.size w W) => awake15_c W (GlE.next hg hW))
  have HFe := chid (fun W (hW : Below w.heap.size w W) => few_c p v W (hs.next hW) hL)
  have HFc := chid (fun W (hW : Below w.heap.size w W) => cFormed_c q hq p v W (hF.later hW) (hs.next hW))
  have HFr := chid (fun W (hW : Below w.heap.size w W) => rFormed_c q hq p v W (hs.next hW) hL)
  have HRc := chid (fun W => cRight_c r W)
  have HRr := chid (fun W => rRight_c r W)
  obtain ⟨a1, c1, a2, c2, a3, c3, a4, c4, a5, c5, rfl, g1, g2, g3, g4⟩ := hs.shapes
  obtain ⟨Y0, Y1, B0⟩ := two_boxes w 32 24 (plL p ⟨.slice a1 p.mets.length c1, .slice a2 p.wins.length c2, .slice a3 p.crons.length c3, .slice a4 p.gs.length c4, .slice a5 p.fin.parts.length c5⟩) (ruL r)
  have X0 := chid Y0
  have X1 := chid Y1
  have HB0 := chid B0
  clear hs hL hF hg hq Y0 Y1 B0 g1 g2 g3 g4
  generalize formedP q p = y1 at *
  generalize ruB r = y2 at *
  generalize fewL p = y3 at *
  have p0 := X0.out.cell 0 _ rfl
  have p1 := X0.out.cell 1 _ rfl
  have p2 := X0.out.cell 2 _ rfl
  have p3 := X0.out.cell 3 _ rfl
  have p4 := X0.out.cell 4 _ rfl
  have p5 := X0.out.cell 5 _ rfl
  have p6 := X0.out.cell 6 _ rfl
  have p7 := X0.out.cell 7 _ rfl
  have p8 := X0.out.cell 8 _ rfl
  have p9 := X0.out.cell 9 _ rfl
  have p10 := X0.out.cell 10 _ rfl
  have p11 := X0.out.cell 11 _ rfl
  have p12 := X0.out.cell 12 _ rfl
  have p13 := X0.out.cell 13 _ rfl
  have r0 := X1.out.cell 0 _ rfl
  have r1 := X1.out.cell 1 _ rfl
  have r2 := X1.out.cell 2 _ rfl
  have r3 := X1.out.cell 3 _ rfl
  have r4 := X1.out.cell 4 _ rfl
  obtain ⟨w4, hw4⟩ : ∃ w4, Hid (w4 = (w.alloc (.cells (plL p ⟨.slice a1 p.mets.length c1, .slice a2 p.wins.length c2, .slice a3 p.crons.length c3, .slice a4 p.gs.length c4, .slice a5 p.fin.parts.length c5⟩).toArray 32)).alloc (.cells (ruL r).toArray 24)) := ⟨_, rfl⟩
  rw [← hw4.out] at p0 p1 p2 p3 p4 p5 p6 p7 p8 p9 p10 p11 p12 p13 r0 r1 r2 r3 r4 HB0
  obtain ⟨f, hf1, hf2⟩ := calm w4
  have HF1 := chid hf1
  have HF2 := chid hf2
  have p0' := fun n => keepc (hf1 n) p0
  have p1' := fun n => keepc (hf1 n) p1
  have p2' := fun n => keepc (hf1 n) p2
  have p3' := fun n => keepc (hf1 n) p3
  have p4' := fun n => keepc (hf1 n) p4
  have p5' := fun n => keepc (hf1 n) p5
  have p6' := fun n => keepc (hf1 n) p6
  have p7' := fun n => keepc (hf1 n) p7
  have p8' := fun n => keepc (hf1 n) p8
  have p9' := fun n => keepc (hf1 n) p9
  have p10' := fun n => keepc (hf1 n) p10
  have p11' := fun n => keepc (hf1 n) p11
  have p12' := fun n => keepc (hf1 n) p12
  have p13' := fun n => keepc (hf1 n) p13
  have r0' := fun n => keepc (hf1 n) r0
  have r1' := fun n => keepc (hf1 n) r1
  have r2' := fun n => keepc (hf1 n) r2
  have r3' := fun n => keepc (hf1 n) r3
  have r4' := fun n => keepc (hf1 n) r4
  clear hf1 hf2 X0 X1 p0 p1 p2 p3 p4 p5 p6 p7 p8 p9 p10 p11 p12 p13 r0 r1 r2 r3 r4
  cases y3 with
  | false =>
    go_enter Tryz.func3, Tryz.ntmps3
    go_wp2_with fail
    rw [← hw4.out]
    clear hw4
    refine wp_region_calm f (by kernel_rfl) (by kernel_rfl) (HF2.out _ (Below.refl _ _).drew) ?_
    repeat (go_big_quiet_step (first | (go_at_call 7; with_reducible refine Calls.mono (HAw.out _ (cbelow_on HB0.out (HF1.out _) HB0.out.size)) ?_; rintro e W1 ⟨rfl, b5⟩; exact ⟨rfl, HF2.out _ (cbelow_on (HF1.out _) b5 (HF1.out _).size)⟩) | (go_at_call 8; with_reducible refine Calls.mono (HFe.out _ (cbelow_on HB0.out (HF1.out _) HB0.out.size)) ?_; rintro e W1 ⟨rfl, b5⟩; exact ⟨rfl, HF2.out _ (cbelow_on (HF1.out _) b5 (HF1.out _).size)⟩) | (go_at_call 9; with_reducible refine Calls.mono (HFc.out _ (cbelow_on HB0.out (HF1.out _) HB0.out.size)) ?_; rintro e W1 ⟨rfl, b5⟩; exact ⟨rfl, HF2.out _ (cbelow_on (HF1.out _) b5 (HF1.out _).size)⟩) | (go_at_call 10; with_reducible refine Calls.mono (HFr.out _ (cbelow_on HB0.out (HF1.out _) HB0.out.size)) ?_; rintro e W1 ⟨rfl, b5⟩; exact ⟨rfl, HF2.out _ (cbelow_on (HF1.out _) b5 (HF1.out _).size)⟩) | (go_at_call 11; with_reducible refine Calls.mono (HRc.out _) ?_; rintro e W1 ⟨rfl, b5⟩; exact ⟨rfl, HF2.out _ (cbelow_on (HF1.out _) b5 (HF1.out _).size)⟩) | (go_at_call 12; with_reducible refine Calls.mono (HRr.out _) ?_; rintro e W1 ⟨rfl, b5⟩; exact ⟨rfl, HF2.out _ (cbelow_on (HF1.out _) b5 (HF1.out _).size)⟩)))
    refine wpQuiet_nil ?_
    intro w6 hw6
    obtain ⟨n6, rfl⟩ := hw6
    have B6 := chid (cbelow_on HB0.out (HF1.out n6) HB0.out.size)
    clear p0' p1' p2' p3' p4' p5' p6' p7' p8' p9' p10' p11' p12' p13' r0' r1' r2' r3' r4'
    generalize f n6 = w6 at *
    go_wp2_with fail
    go_ret
    exact ⟨by simp, B6.out⟩
  | true =>
    go_enter Tryz.func3, Tryz.ntmps3
    go_wp2_with fail
    rw [← hw4.out]
    clear hw4
    refine wp_region_calm f (by kernel_rfl) (by kernel_rfl) (HF2.out _ (Below.refl _ _).drew) ?_
    repeat (go_big_quiet_step (first | (go_at_call 7; with_reducible refine Calls.mono (HAw.out _ (cbelow_on HB0.out (HF1.out _) HB0.out.size)) ?_; rintro e W1 ⟨rfl, b5⟩; exact ⟨rfl, HF2.out _ (cbelow_on (HF1.out _) b5 (HF1.out _).size)⟩) | (go_at_call 8; with_reducible refine Calls.mono (HFe.out _ (cbelow_on HB0.out (HF1.out _) HB0.out.size)) ?_; rintro e W1 ⟨rfl, b5⟩; exact ⟨rfl, HF2.out _ (cbelow_on (HF1.out _) b5 (HF1.out _).size)⟩) | (go_at_call 9; with_reducible refine Calls.mono (HFc.out _ (cbelow_on HB0.out (HF1.out _) HB0.out.size)) ?_; rintro e W1 ⟨rfl, b5⟩; exact ⟨rfl, HF2.out _ (cbelow_on (HF1.out _) b5 (HF1.out _).size)⟩) | (go_at_call 10; with_reducible refine Calls.mono (HFr.out _ (cbelow_on HB0.out (HF1.out _) HB0.out.size)) ?_; rintro e W1 ⟨rfl, b5⟩; exact ⟨rfl, HF2.out _ (cbelow_on (HF1.out _) b5 (HF1.out _).size)⟩) | (go_at_call 11; with_reducible refine Calls.mono (HRc.out _) ?_; rintro e W1 ⟨rfl, b5⟩; exact ⟨rfl, HF2.out _ (cbelow_on (HF1.out _) b5 (HF1.out _).size)⟩) | (go_at_call 12; with_reducible refine Calls.mono (HRr.out _) ?_; rintro e W1 ⟨rfl, b5⟩; exact ⟨rfl, HF2.out _ (cbelow_on (HF1.out _) b5 (HF1.out _).size)⟩)))
    refine wpQuiet_nil ?_
    intro w6 hw6
    obtain ⟨n6, rfl⟩ := hw6
    have B6 := chid (cbelow_on HB0.out (HF1.out n6) HB0.out.size)
    clear p0' p1' p2' p3' p4' p5' p6' p7' p8' p9' p10' p11' p12' p13' r0' r1' r2' r3' r4'
    generalize f n6 = w6 at *
    go_wp2_with fail
    go_ret
    exact ⟨by simp, B6.out⟩
end Go.Proofs.YtaombbbblgfgdaaGreatDoor

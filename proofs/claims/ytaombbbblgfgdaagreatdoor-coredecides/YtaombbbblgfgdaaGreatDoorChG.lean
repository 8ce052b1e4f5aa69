/- The law CoreDecides, walked. -/
import Derived.Test.YtaombbbblgfgdaaGreatDoorChF
import Derived.Test.YtaombbbblgfgdaaGreatDoorCeF
import Derived.Test.YtaombbbblgfgdaaGreatDoorMgG
namespace Go.Proofs.YtaombbbblgfgdaaGreatDoor
open Go.RowKit

set_option maxHeartbeats 8000000 in
set_option maxRecDepth 20000 in
theorem coreDecides_c (p : PlP) (v : PlV) (E : EnvP) (v1 v2 : Value) (w : World) (hs : PlAt w p v) (hL : p.gs.length * 96 ≤ 140737488355328) (he : EnvAt w E v1 v2) (hF : FldAt w) (hg : GlE w) : Calls Tryz.prog 4 #[plV p v, envV E v1 v2] w fun e w' => e = .returned (.bool true) ∧ Below w.heap.size w w' := by
  obtain ⟨q, hq⟩ := coeq_ex
  have HAw := chid (fun W (hW : Below w.heap.size w W) => awake15_c W (GlE.next hg hW))
  have HFe := chid (fun W (hW : Below w.heap.size w W) => few_c p v W (hs.next hW) hL)
  have HDe := chid (fun W (hW : Below w.heap.size w W) => cDecide_c q hq E p v v1 v2 W (hs.next hW) (he.next hW) (hF.later hW) (GlE.next hg hW))
  have HFr := chid (fun W (hW : Below w.heap.size w W) => rFormed_c q hq p v W (hs.next hW) hL)
  have HDr : Hid (formedP q p = true → fitE E p = true → ∀ W, Below w.heap.size w W → Calls Tryz.prog 14 #[plV p v, envV E v1 v2] W fun e w' => e = .returned (rawV (gsR E p.gs p.fin)) ∧ Below W.heap.size W w') := fun h1 h2 W hW => by
    unfold fitE at h2
    rw [Bool.and_eq_true] at h2
    exact rDecide_c E p v v1 v2 W he.ok (plOk_of (q := q) (E := E) h1 (of_decide_eq_true h2.1) (of_decide_eq_true h2.2)).1 (hs.next hW) (he.next hW)
  obtain ⟨a1, c1, a2, c2, a3, c3, a4, c4, a5, c5, rfl, g1, g2, g3, g4⟩ := hs.shapes
  obtain ⟨e1, d1, e2, d2, rfl, rfl⟩ := he.shape
  have hL1 : E.wins.length ≤ 9223372036854775807 := he.ok.wl
  have hL2 : E.crons.length ≤ 9223372036854775807 := he.ok.cl
  obtain ⟨Y0, Y1, Y2⟩ := two_boxes w 32 40 (plL p ⟨.slice a1 p.mets.length c1, .slice a2 p.wins.length c2, .slice a3 p.crons.length c3, .slice a4 p.gs.length c4, .slice a5 p.fin.parts.length c5⟩) [.int .i64 E.rep, .slice e1 E.wins.length d1, .slice e2 E.crons.length d2]
  have HY0 := chid Y0
  have HY1 := chid Y1
  have B0 := chid Y2
  clear hs hL he hF hg Y0 Y1 Y2 g1 g4 hq
  generalize fewL p = y3 at *
  generalize gsR E p.gs p.fin = r at *
  go_enter Tryz.func4, Tryz.ntmps4
  go_wp2_with fail
  refine Calls.mono (HAw.out _ B0.out) ?_
  rintro e w1 ⟨rfl, b⟩
  have B1 := chid (cbelow_on B0.out b B0.out.size)
  replace HY0 := chid (HY0.out.next b)
  replace HY1 := chid (HY1.out.next b)
  clear b B0
  have p0 := HY0.out.cell 0 _ rfl
  have p1 := HY0.out.cell 1 _ rfl
  have p2 := HY0.out.cell 2 _ rfl
  have p3 := HY0.out.cell 3 _ rfl
  have p4 := HY0.out.cell 4 _ rfl
  have p5 := HY0.out.cell 5 _ rfl
  have p6 := HY0.out.cell 6 _ rfl
  have p7 := HY0.out.cell 7 _ rfl
  have p8 := HY0.out.cell 8 _ rfl
  have p9 := HY0.out.cell 9 _ rfl
  have p10 := HY0.out.cell 10 _ rfl
  have p11 := HY0.out.cell 11 _ rfl
  have p12 := HY0.out.cell 12 _ rfl
  have p13 := HY0.out.cell 13 _ rfl
  have pl := HY0.out.lt
  go_wp2_with fail
  refine Calls.mono (HFe.out _ B1.out) ?_
  rintro e w2 ⟨rfl, b⟩
  have B2 := chid (cbelow_on B1.out b B1.out.size)
  replace HY0 := chid (HY0.out.next b)
  replace HY1 := chid (HY1.out.next b)
  clear b B1
  clear p0 p1 p2 p3 p4 p5 p6 p7 p8 p9 p10 p11 p12 p13 pl HFe
  cases y3 with
  | false =>
    go_wp2_with fail
    refine Calls.mono (HAw.out _ B2.out) ?_
    rintro e w3 ⟨rfl, b⟩
    have B3 := chid (cbelow_on B2.out b B2.out.size)
    replace HY0 := chid (HY0.out.next b)
    replace HY1 := chid (HY1.out.next b)
    clear b B2
    go_wp2_with fail
    go_ret
    exact ⟨rfl, B3.out⟩
  | true =>
  have p0 := HY0.out.cell 0 _ rfl
  have p1 := HY0.out.cell 1 _ rfl
  have p2 := HY0.out.cell 2 _ rfl
  have p3 := HY0.out.cell 3 _ rfl
  have p4 := HY0.out.cell 4 _ rfl
  have p5 := HY0.out.cell 5 _ rfl
  have p6 := HY0.out.cell 6 _ rfl
  have p7 := HY0.out.cell 7 _ rfl
  have p8 := HY0.out.cell 8 _ rfl
  have p9 := HY0.out.cell 9 _ rfl
  have p10 := HY0.out.cell 10 _ rfl
  have p11 := HY0.out.cell 11 _ rfl
  have p12 := HY0.out.cell 12 _ rfl
  have p13 := HY0.out.cell 13 _ rfl
  have pl := HY0.out.lt
  have k0 := HY1.out.cell 0 _ rfl
  have k1 := HY1.out.cell 1 _ rfl
  have k2 := HY1.out.cell 2 _ rfl
  have kl := HY1.out.lt
  go_wp2_with fail
  refine Calls.mono (HDe.out _ B2.out) ?_
  rintro e w3 ⟨he, b⟩
  have B3 := chid (cbelow_on B2.out b B2.out.size)
  replace HY0 := chid (HY0.out.next b)
  replace HY1 := chid (HY1.out.next b)
  clear b B2 HDe HAw
  clear p0 p1 p2 p3 p4 p5 p6 p7 p8 p9 p10 p11 p12 p13 pl k0 k1 k2 kl
  obtain ⟨y1, hy1⟩ : ∃ y1, Hid (formedP q p = y1) := ⟨_, rfl⟩
  rw [hy1.out] at he HFr HDr
  obtain ⟨y2, hy2⟩ : ∃ y2, Hid (fitE E p = y2) := ⟨_, rfl⟩
  rw [hy2.out] at he HDr
  rcases (show y1 = false ∨ (y1 = true ∧ y2 = false) ∨ (y1 = true ∧ y2 = true) by cases y1 <;> cases y2 <;> simp) with rfl | ⟨rfl, rfl⟩ | ⟨rfl, rfl⟩
  · have he2 : e = .returned (.tuple #[.agg #[.bool false, .int .i64 0, .int .i64 0], .int .i64 1]) := he
    subst he2
    clear he HDr
    have p0 := HY0.out.cell 0 _ rfl
    have p1 := HY0.out.cell 1 _ rfl
    have p2 := HY0.out.cell 2 _ rfl
    have p3 := HY0.out.cell 3 _ rfl
    have p4 := HY0.out.cell 4 _ rfl
    have p5 := HY0.out.cell 5 _ rfl
    have p6 := HY0.out.cell 6 _ rfl
    have p7 := HY0.out.cell 7 _ rfl
    have p8 := HY0.out.cell 8 _ rfl
    have p9 := HY0.out.cell 9 _ rfl
    have p10 := HY0.out.cell 10 _ rfl
    have p11 := HY0.out.cell 11 _ rfl
    have p12 := HY0.out.cell 12 _ rfl
    have p13 := HY0.out.cell 13 _ rfl
    have pl := HY0.out.lt
    have k0 := HY1.out.cell 0 _ rfl
    have k1 := HY1.out.cell 1 _ rfl
    have k2 := HY1.out.cell 2 _ rfl
    have kl := HY1.out.lt
    obtain ⟨w4, hw4⟩ : ∃ w4, Hid (w4 = w3.alloc (.cells #[.bool false, .int .i64 0, .int .i64 0] 43)) := ⟨_, chid rfl⟩
    have Xr : Hid (Box w4 w3.heap.size [.bool false, .int .i64 0, .int .i64 0]) := by rw [hw4.out]; exact chid (Box.new w3 [.bool false, .int .i64 0, .int .i64 0] 43)
    have ka : Below w3.heap.size w3 w4 := by rw [hw4.out]; exact (Below.refl _ _).alloc (Nat.le_refl _) _
    have B4 := chid (cbelow_on B3.out ka B3.out.size)
    have HZ0 := chid (HY0.out.next ka)
    have HZ1 := chid (HY1.out.next ka)
    clear ka
    go_wp2_with fail
    rw [← hw4.out]
    clear hw4 p0 p1 p2 p3 p4 p5 p6 p7 p8 p9 p10 p11 p12 p13 pl k0 k1 k2 kl
    refine Calls.mono (HFr.out _ B4.out) ?_
    rintro e w5 ⟨rfl, b⟩
    have B5 := chid (cbelow_on B4.out b B4.out.size)
    replace Xr := chid (Xr.out.next b)
    clear b HY0 HY1 HZ0 HZ1 B3 B4
    have x0 := Xr.out.cell 0 _ rfl
    have x1 := Xr.out.cell 1 _ rfl
    have x2 := Xr.out.cell 2 _ rfl
    have xl := Xr.out.lt
    go_wp2_with fail
    go_ret
    exact ⟨rfl, B5.out⟩
  · have he2 : e = .returned (.tuple #[.agg #[.bool false, .int .i64 0, .int .i64 0], .int .i64 1]) := he
    subst he2
    clear he HDr
    have hne : ¬ E.wins.length = p.wins.length ∨ ¬ E.crons.length = p.crons.length := by
      have := hy2.out
      unfold fitE at this
      simp only [Bool.and_eq_false_iff, decide_eq_false_iff_not] at this
      exact this
    have p0 := HY0.out.cell 0 _ rfl
    have p1 := HY0.out.cell 1 _ rfl
    have p2 := HY0.out.cell 2 _ rfl
    have p3 := HY0.out.cell 3 _ rfl
    have p4 := HY0.out.cell 4 _ rfl
    have p5 := HY0.out.cell 5 _ rfl
    have p6 := HY0.out.cell 6 _ rfl
    have p7 := HY0.out.cell 7 _ rfl
    have p8 := HY0.out.cell 8 _ rfl
    have p9 := HY0.out.cell 9 _ rfl
    have p10 := HY0.out.cell 10 _ rfl
    have p11 := HY0.out.cell 11 _ rfl
    have p12 := HY0.out.cell 12 _ rfl
    have p13 := HY0.out.cell 13 _ rfl
    have pl := HY0.out.lt
    have k0 := HY1.out.cell 0 _ rfl
    have k1 := HY1.out.cell 1 _ rfl
    have k2 := HY1.out.cell 2 _ rfl
    have kl := HY1.out.lt
    obtain ⟨w4, hw4⟩ : ∃ w4, Hid (w4 = w3.alloc (.cells #[.bool false, .int .i64 0, .int .i64 0] 43)) := ⟨_, chid rfl⟩
    have Xr : Hid (Box w4 w3.heap.size [.bool false, .int .i64 0, .int .i64 0]) := by rw [hw4.out]; exact chid (Box.new w3 [.bool false, .int .i64 0, .int .i64 0] 43)
    have ka : Below w3.heap.size w3 w4 := by rw [hw4.out]; exact (Below.refl _ _).alloc (Nat.le_refl _) _
    have B4 := chid (cbelow_on B3.out ka B3.out.size)
    have HZ0 := chid (HY0.out.next ka)
    have HZ1 := chid (HY1.out.next ka)
    clear ka
    go_wp2_with fail
    rw [← hw4.out]
    clear hw4 p0 p1 p2 p3 p4 p5 p6 p7 p8 p9 p10 p11 p12 p13 pl k0 k1 k2 kl
    refine Calls.mono (HFr.out _ B4.out) ?_
    rintro e w5 ⟨rfl, b⟩
    have B5 := chid (cbelow_on B4.out b B4.out.size)
    replace Xr := chid (Xr.out.next b)
    replace HY0 := chid (HZ0.out.next b)
    replace HY1 := chid (HZ1.out.next b)
    clear b HZ0 HZ1 B3 B4
    have x0 := Xr.out.cell 0 _ rfl
    have x1 := Xr.out.cell 1 _ rfl
    have x2 := Xr.out.cell 2 _ rfl
    have xl := Xr.out.lt
    have p6 := HY0.out.cell 6 _ rfl
    have p7 := HY0.out.cell 7 _ rfl
    have pl := HY0.out.lt
    have k1 := HY1.out.cell 1 _ rfl
    have k2 := HY1.out.cell 2 _ rfl
    have kl := HY1.out.lt
    by_cases h1 : E.wins.length = p.wins.length
    · have h1' : ((E.wins.length : Int) != (p.wins.length : Int)) = false := by simp; omega
      have h2' : ((E.crons.length : Int) != (p.crons.length : Int)) = true := by simp; omega
      clear hne h1
      go_wp2_with fail
      go_ret
      exact ⟨rfl, B5.out⟩
    · have h1' : ((E.wins.length : Int) != (p.wins.length : Int)) = true := by simp; omega
      clear hne h1
      go_wp2_with fail
      go_ret
      exact ⟨rfl, B5.out⟩
  · obtain ⟨ra, rb, rc, hra⟩ : ∃ ra rb rc, Hid (rawV r = .agg #[.bool ra, .int .i64 rb, .int .i64 rc]) := by unfold rawV; split; exact ⟨_, _, _, chid rfl⟩; exact ⟨_, _, _, chid rfl⟩
    have he2 : e = .returned (.tuple #[.agg #[.bool ra, .int .i64 rb, .int .i64 rc], .int .i64 0]) := by rw [he, ← hra.out]; rfl
    subst he2
    have HD2 := chid (HDr.out (by first | rfl | trivial) (by first | rfl | trivial))
    rw [hra.out] at HD2
    clear he HDr hra
    have heq : E.wins.length = p.wins.length ∧ E.crons.length = p.crons.length := by
      have := hy2.out
      unfold fitE at this
      simpa using this
    have h1' : ((E.wins.length : Int) != (p.wins.length : Int)) = false := by simp; omega
    have h2' : ((E.crons.length : Int) != (p.crons.length : Int)) = false := by simp; omega
    clear heq
    have p0 := HY0.out.cell 0 _ rfl
    have p1 := HY0.out.cell 1 _ rfl
    have p2 := HY0.out.cell 2 _ rfl
    have p3 := HY0.out.cell 3 _ rfl
    have p4 := HY0.out.cell 4 _ rfl
    have p5 := HY0.out.cell 5 _ rfl
    have p6 := HY0.out.cell 6 _ rfl
    have p7 := HY0.out.cell 7 _ rfl
    have p8 := HY0.out.cell 8 _ rfl
    have p9 := HY0.out.cell 9 _ rfl
    have p10 := HY0.out.cell 10 _ rfl
    have p11 := HY0.out.cell 11 _ rfl
    have p12 := HY0.out.cell 12 _ rfl
    have p13 := HY0.out.cell 13 _ rfl
    have pl := HY0.out.lt
    have k0 := HY1.out.cell 0 _ rfl
    have k1 := HY1.out.cell 1 _ rfl
    have k2 := HY1.out.cell 2 _ rfl
    have kl := HY1.out.lt
    obtain ⟨w4, hw4⟩ : ∃ w4, Hid (w4 = w3.alloc (.cells #[.bool ra, .int .i64 rb, .int .i64 rc] 43)) := ⟨_, chid rfl⟩
    have Xr : Hid (Box w4 w3.heap.size [.bool ra, .int .i64 rb, .int .i64 rc]) := by rw [hw4.out]; exact chid (Box.new w3 [.bool ra, .int .i64 rb, .int .i64 rc] 43)
    have ka : Below w3.heap.size w3 w4 := by rw [hw4.out]; exact (Below.refl _ _).alloc (Nat.le_refl _) _
    have B4 := chid (cbelow_on B3.out ka B3.out.size)
    have HZ0 := chid (HY0.out.next ka)
    have HZ1 := chid (HY1.out.next ka)
    clear ka
    go_wp2_with fail
    rw [← hw4.out]
    clear hw4 p0 p1 p2 p3 p4 p5 p6 p7 p8 p9 p10 p11 p12 p13 pl k0 k1 k2 kl
    refine Calls.mono (HFr.out _ B4.out) ?_
    rintro e w5 ⟨rfl, b⟩
    have B5 := chid (cbelow_on B4.out b B4.out.size)
    replace Xr := chid (Xr.out.next b)
    replace HY0 := chid (HZ0.out.next b)
    replace HY1 := chid (HZ1.out.next b)
    clear b HZ0 HZ1 B3 B4
    have x0 := Xr.out.cell 0 _ rfl
    have x1 := Xr.out.cell 1 _ rfl
    have x2 := Xr.out.cell 2 _ rfl
    have xl := Xr.out.lt
    have p0 := HY0.out.cell 0 _ rfl
    have p1 := HY0.out.cell 1 _ rfl
    have p2 := HY0.out.cell 2 _ rfl
    have p3 := HY0.out.cell 3 _ rfl
    have p4 := HY0.out.cell 4 _ rfl
    have p5 := HY0.out.cell 5 _ rfl
    have p6 := HY0.out.cell 6 _ rfl
    have p7 := HY0.out.cell 7 _ rfl
    have p8 := HY0.out.cell 8 _ rfl
    have p9 := HY0.out.cell 9 _ rfl
    have p10 := HY0.out.cell 10 _ rfl
    have p11 := HY0.out.cell 11 _ rfl
    have p12 := HY0.out.cell 12 _ rfl
    have p13 := HY0.out.cell 13 _ rfl
    have pl := HY0.out.lt
    have k0 := HY1.out.cell 0 _ rfl
    have k1 := HY1.out.cell 1 _ rfl
    have k2 := HY1.out.cell 2 _ rfl
    have kl := HY1.out.lt
    obtain ⟨f, hf1, hf2⟩ := calm w5
    have HF1 := chid hf1
    have HF2 := chid hf2
    have x0' := fun n => keepc (hf1 n) x0
    have x1' := fun n => keepc (hf1 n) x1
    have x2' := fun n => keepc (hf1 n) x2
    have p0' := fun n => keepc (hf1 n) p0
    have p1' := fun n => keepc (hf1 n) p1
    have p2' := fun n => keepc (hf1 n) p2
    have p3' := fun n => keepc (hf1 n) p3
    have p4' := fun n => keepc (hf1 n) p4
    have p5' := fun n => keepc (hf1 n) p5
    have p6' := fun n => keepc (hf1 n) p6
    have p7' := fun n => keepc (hf1 n) p7
    have p8' := fun n => keepc (hf1 n) p8
    have p9' := fun n => keepc (hf1 n) p9
    have p10' := fun n => keepc (hf1 n) p10
    have p11' := fun n => keepc (hf1 n) p11
    have p12' := fun n => keepc (hf1 n) p12
    have p13' := fun n => keepc (hf1 n) p13
    have k0' := fun n => keepc (hf1 n) k0
    have k1' := fun n => keepc (hf1 n) k1
    have k2' := fun n => keepc (hf1 n) k2
    clear hf1 hf2
    go_wp2_with fail
    clear x0 x1 x2 p0 p1 p2 p3 p4 p5 p6 p7 p8 p9 p10 p11 p12 p13 pl k0 k1 k2 kl
    refine wp_region_calm f (by kernel_rfl) (by kernel_rfl) (HF2.out _ (Below.refl _ _).drew) ?_
    repeat (go_big_quiet_step (first | (go_at_call 14; with_reducible refine Calls.mono (HD2.out _ (cbelow_on B5.out (HF1.out _) B5.out.size)) ?_; rintro e W1 ⟨rfl, b5⟩; exact ⟨rfl, HF2.out _ (cbelow_on (HF1.out _) b5 (HF1.out _).size)⟩)))
    refine wpQuiet_nil ?_
    intro w6 hw6
    obtain ⟨n6, rfl⟩ := hw6
    have B6 := chid (cbelow_on B5.out (HF1.out n6) B5.out.size)
    clear x0' x1' x2' p0' p1' p2' p3' p4' p5' p6' p7' p8' p9' p10' p11' p12' p13' k0' k1' k2'
    generalize f n6 = w6 at *
    go_wp2_with fail
    go_ret
    exact ⟨rfl, B6.out⟩
end Go.Proofs.YtaombbbblgfgdaaGreatDoor

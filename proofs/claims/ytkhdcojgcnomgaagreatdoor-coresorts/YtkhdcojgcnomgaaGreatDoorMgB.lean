/- The document's Sort, walked whole. The law CoreSorts, walked. -/
import Derived.Test.YtkhdcojgcnomgaaGreatDoorCrG
import Derived.Test.YtkhdcojgcnomgaaGreatDoorCrH
import Derived.Test.YtkhdcojgcnomgaaGreatDoorCrI
import Derived.Test.YtkhdcojgcnomgaaGreatDoorCrJ
import Derived.Test.YtkhdcojgcnomgaaGreatDoorCrK
import Derived.Test.YtkhdcojgcnomgaaGreatDoorMgA
import Derived.Test.YtkhdcojgcnomgaaGreatDoorCpG
section
namespace Go.Proofs.YtkhdcojgcnomgaaGreatDoor
open Go.RowKit

theorem rSort_step (wn cn ln : Int) (h64 : C64 wn ∧ C64 cn ∧ C64 ln) (t : Co) (ih : ∀ x, x ∈ t.parts → RSo wn cn ln x) : RSo wn cn ln t := by
  by_cases h : ∃ k : Nat, t.op = (k : Int) ∧ fitsB k wn cn ln t = true ∧ ¬ k = 32 ∧ ∃ q : Nat, arT.getD k (-2) = (q : Int) ∧ t.parts.length = q
  case neg => exact rSort_front wn cn ln h64 t ih (fun k h1 h2 h3 q h4 h5 => h ⟨k, h1, h2, h3, q, h4, h5⟩)
  obtain ⟨k, h1, h2, h3, q, h4, h5⟩ := h
  have hr : 1 ≤ k ∧ k ≤ 31 := by
    rcases Nat.lt_or_ge k 33 with hk | hk
    · by_cases h0 : k = 0
      · subst h0; exfalso; have : (q : Int) = -2 := h4.symm; omega
      · omega
    · exfalso
      have : arT.getD k (-2) = -2 := by rw [List.getD_eq_getElem?_getD, List.getElem?_eq_none (by exact hk)]; rfl
      rw [this] at h4
      omega
  have hks : (k = 1 ∨ k = 2 ∨ k = 3 ∨ k = 4 ∨ k = 5 ∨ k = 6 ∨ k = 29) ∨ (k = 28) ∨ (k = 7 ∨ k = 8 ∨ k = 9 ∨ k = 10) ∨ (k = 11 ∨ k = 12 ∨ k = 13 ∨ k = 30 ∨ k = 31) ∨ (k = 14 ∨ k = 15 ∨ k = 16) ∨ (k = 17 ∨ k = 18) ∨ (k = 19 ∨ k = 20 ∨ k = 21) ∨ (k = 22 ∨ k = 23) ∨ (k = 24 ∨ k = 25) ∨ (k = 26 ∨ k = 27) := by omega
  rcases hks with h | h | h | h | h | h | h | h | h | h
  · have hq : (q : Int) = 0 := by rcases h with rfl | rfl | rfl | rfl | rfl | rfl | rfl <;> exact h4.symm
    exact rSort_G0 wn cn ln h64 t ih k h1 h h2 (by omega)
  · have hq : (q : Int) = 3 := by subst h; exact h4.symm
    exact rSort_G1 wn cn ln h64 t ih k h1 h h2 (by omega)
  · have hq : (q : Int) = 1 := by rcases h with rfl | rfl | rfl | rfl <;> exact h4.symm
    exact rSort_H0 wn cn ln h64 t ih k h1 h h2 (by omega)
  · have hq : (q : Int) = 1 := by rcases h with rfl | rfl | rfl | rfl | rfl <;> exact h4.symm
    exact rSort_H1 wn cn ln h64 t ih k h1 h h2 (by omega)
  · have hq : (q : Int) = 2 := by rcases h with rfl | rfl | rfl <;> exact h4.symm
    exact rSort_I0 wn cn ln h64 t ih k h1 h h2 (by omega)
  · have hq : (q : Int) = 2 := by rcases h with rfl | rfl <;> exact h4.symm
    exact rSort_I1 wn cn ln h64 t ih k h1 h h2 (by omega)
  · have hq : (q : Int) = 2 := by rcases h with rfl | rfl | rfl <;> exact h4.symm
    exact rSort_J0 wn cn ln h64 t ih k h1 h h2 (by omega)
  · have hq : (q : Int) = 2 := by rcases h with rfl | rfl <;> exact h4.symm
    exact rSort_J1 wn cn ln h64 t ih k h1 h h2 (by omega)
  · have hq : (q : Int) = 2 := by rcases h with rfl | rfl <;> exact h4.symm
    exact rSort_K0 wn cn ln h64 t ih k h1 h h2 (by omega)
  · have hq : (q : Int) = 2 := by rcases h with rfl | rfl <;> exact h4.symm
    exact rSort_K1 wn cn ln h64 t ih k h1 h h2 (by omega)
end Go.Proofs.YtkhdcojgcnomgaaGreatDoor
end
section
namespace Go.Proofs.YtkhdcojgcnomgaaGreatDoor
open Go.RowKit

theorem rSort_c (wn cn ln : Int) (h64 : C64 wn ∧ C64 cn ∧ C64 ln) (t : Co) : RSo wn cn ln t := by
  induction t using Co.ind with
  | h t ih => exact rSort_step wn cn ln h64 t ih
set_option maxHeartbeats 4000000 in
set_option maxRecDepth 20000 in
theorem coreSorts_c (t : Co) (v : Value) (t2 : Co) (v2 : Value) (r1 r2 r3 : Int) (w : World) (hs : CSits w t v) (hs2 : CSits w t2 v2) (hg : GlE w) (hr : C64 r1 ∧ C64 r2 ∧ C64 r3) : Calls Tryz.prog 3 #[coV t v, coV t2 v2, .agg #[.int .i64 r1, .int .i64 r2, .int .i64 r3]] w fun e w' => e = .returned (.bool true) ∧ Below w.heap.size w w' := by
  have HS := chid hs
  have HS2 := chid hs2
  have HG := chid hg
  have HR := chid hr
  have HAw := chid (fun W (hW : Below w.heap.size w W) => awake15_c W (GlE.next HG.out hW))
  have HSm := chid (fun W (hW : Below w.heap.size w W) => csmall_c t v W (HS.out.next hW))
  have HSm2 := chid (fun W (hW : Below w.heap.size w W) => csmall_c t2 v2 W (HS2.out.next hW))
  have HNo := chid (fun W (hW : Below w.heap.size w W) => cnodes_c t v W (HS.out.next hW))
  have HNr := chid (fun W (hW : Below w.heap.size w W) => crNodes_c t v W (HS.out.next hW))
  have hz : Hid (∃ N : Int, cndsV t = .int .i64 N) := chid ⟨_, rfl⟩
  obtain ⟨N, hN⟩ := hz.out
  rw [hN] at HNo HNr
  obtain ⟨T, hT⟩ := csame_ex t t2
  have HSa := chid (fun W (hW : Below w.heap.size w W) => cSame_c t t2 v v2 W T hT (HS.out.next hW) (HS2.out.next hW))
  have HSr := chid (fun W (hW : Below w.heap.size w W) => crSame_c t t2 v v2 W T hT (HS.out.next hW) (HS2.out.next hW))
  have HSt := chid (fun W (hW : Below w.heap.size w W) => cSame_c t t v v W true ⟨fun _ => rfl, fun _ => rfl⟩ (HS.out.next hW) (HS.out.next hW))
  obtain ⟨ad, cap, rfl, -, -⟩ := hs.parts.shape
  obtain ⟨ad2, cap2, rfl, -, -⟩ := hs2.parts.shape
  obtain ⟨⟨q1, q2⟩, ⟨q3, q4⟩, q5, q6⟩ := hr
  obtain ⟨Y0, Y1, Y2, B0⟩ := three_boxes w 24 24 25 (coL t (.slice ad t.parts.length cap)) (coL t2 (.slice ad2 t2.parts.length cap2)) [.int .i64 r1, .int .i64 r2, .int .i64 r3]
  have X0 := chid Y0
  have X1 := chid Y1
  have X2 := chid Y2
  have HB0 := chid B0
  clear hs hs2 hg hT hN hz Y0 Y1 Y2 B0
  go_enter Tryz.func3, Tryz.ntmps3
  go_wp2_with fail
  refine Calls.mono (HAw.out _ HB0.out) ?_
  rintro e w1 ⟨rfl, b⟩
  have B1 := chid (cbelow_on HB0.out b HB0.out.size)
  replace X0 := chid (X0.out.next b)
  replace X1 := chid (X1.out.next b)
  replace X2 := chid (X2.out.next b)
  clear b HB0
  have p0 := X0.out.cell 0 _ rfl
  have p1 := X0.out.cell 1 _ rfl
  have p2 := X0.out.cell 2 _ rfl
  have p3 := X0.out.cell 3 _ rfl
  have pl := X0.out.lt
  go_wp2_with fail
  refine Calls.mono (HSm.out _ B1.out) ?_
  rintro e w2 ⟨rfl, b⟩
  have B2 := chid (cbelow_on B1.out b B1.out.size)
  replace X0 := chid (X0.out.next b)
  replace X1 := chid (X1.out.next b)
  replace X2 := chid (X2.out.next b)
  clear b B1 p0 p1 p2 p3 pl HSm
  by_cases hn : cnodes t ≤ 4096
  case neg =>
    rw [decide_eq_false hn]
    go_wp2_with fail
    refine Calls.mono (HAw.out _ B2.out) ?_
    rintro e w3 ⟨rfl, b⟩
    have B3 := chid (cbelow_on B2.out b B2.out.size)
    clear b
    go_wp2_with fail
    go_ret
    exact ⟨rfl, B3.out⟩
  rw [decide_eq_true hn]
  have p0 := X1.out.cell 0 _ rfl
  have p1 := X1.out.cell 1 _ rfl
  have p2 := X1.out.cell 2 _ rfl
  have p3 := X1.out.cell 3 _ rfl
  have pl := X1.out.lt
  go_wp2_with fail
  refine Calls.mono (HSm2.out _ B2.out) ?_
  rintro e w3 ⟨rfl, b⟩
  have B3 := chid (cbelow_on B2.out b B2.out.size)
  replace X0 := chid (X0.out.next b)
  replace X1 := chid (X1.out.next b)
  replace X2 := chid (X2.out.next b)
  clear b B2 p0 p1 p2 p3 pl HSm2
  by_cases hn2 : cnodes t2 ≤ 4096
  case neg =>
    rw [decide_eq_false hn2]
    go_wp2_with fail
    refine Calls.mono (HAw.out _ B3.out) ?_
    rintro e w4 ⟨rfl, b⟩
    have B4 := chid (cbelow_on B3.out b B3.out.size)
    clear b
    go_wp2_with fail
    go_ret
    exact ⟨rfl, B4.out⟩
  rw [decide_eq_true hn2]
  have HSo := chid (fun W (hW : Below w.heap.size w W) => cSort_c t _ r1 r2 r3 W (HS.out.next hW) (by omega) HR.out)
  have HSd := chid (fun W (hW : Below w.heap.size w W) => rSort_c r1 r2 r3 HR.out t _ W (HS.out.next hW) (by omega))
  generalize csort ladF r1 r2 r3 t = s at *
  have q0 := X2.out.cell 0 _ rfl
  have q1' := X2.out.cell 1 _ rfl
  have q2' := X2.out.cell 2 _ rfl
  have ql := X2.out.lt
  have ql_1 : w.heap.size + 1 + 1 < w3.heap.size + 1 := by omega
  clear HAw
  obtain ⟨w4, hw4⟩ : ∃ w4, Hid (w4 = w3.alloc (.cells #[.int .i64 r1, .int .i64 r2, .int .i64 r3] 29)) := ⟨_, chid rfl⟩
  have X3 : Hid (Box w4 w3.heap.size [.int .i64 r1, .int .i64 r2, .int .i64 r3]) := by rw [hw4.out]; exact chid (Box.new w3 [.int .i64 r1, .int .i64 r2, .int .i64 r3] 29)
  have ka : Below w3.heap.size w3 w4 := by rw [hw4.out]; exact (Below.refl _ _).alloc (Nat.le_refl _) _
  go_wp2_with fail
  rw [← hw4.out]
  have B4 := chid (cbelow_on B3.out ka B3.out.size)
  replace X0 := chid (X0.out.next ka)
  replace X1 := chid (X1.out.next ka)
  replace X2 := chid (X2.out.next ka)
  clear hw4 ka B3 q0 q1' q2' ql ql_1
  obtain ⟨f, hf1, hf2⟩ := calm w4
  have HF1 := chid hf1
  have HF2 := chid hf2
  have p0 : ∀ n, (f n).cell? ⟨w.heap.size, 0, none⟩ = some (.int .i64 t.op) := fun n => ((hf1 n).cell (p := ⟨w.heap.size, 0, none⟩) X0.out.lt).trans (X0.out.cell 0 _ rfl)
  have p1 : ∀ n, (f n).cell? ⟨w.heap.size, 1, none⟩ = some (.int .i64 t.n) := fun n => ((hf1 n).cell (p := ⟨w.heap.size, 1, none⟩) X0.out.lt).trans (X0.out.cell 1 _ rfl)
  have p2 : ∀ n, (f n).cell? ⟨w.heap.size, 2, none⟩ = some (.int .i64 t.m) := fun n => ((hf1 n).cell (p := ⟨w.heap.size, 2, none⟩) X0.out.lt).trans (X0.out.cell 2 _ rfl)
  have p3 : ∀ n, (f n).cell? ⟨w.heap.size, 3, none⟩ = some (.slice ad t.parts.length cap) := fun n => ((hf1 n).cell (p := ⟨w.heap.size, 3, none⟩) X0.out.lt).trans (X0.out.cell 3 _ rfl)
  have k0 : ∀ n, (f n).cell? ⟨w.heap.size + 1, 0, none⟩ = some (.int .i64 t2.op) := fun n => ((hf1 n).cell (p := ⟨w.heap.size + 1, 0, none⟩) X1.out.lt).trans (X1.out.cell 0 _ rfl)
  have k1 : ∀ n, (f n).cell? ⟨w.heap.size + 1, 1, none⟩ = some (.int .i64 t2.n) := fun n => ((hf1 n).cell (p := ⟨w.heap.size + 1, 1, none⟩) X1.out.lt).trans (X1.out.cell 1 _ rfl)
  have k2 : ∀ n, (f n).cell? ⟨w.heap.size + 1, 2, none⟩ = some (.int .i64 t2.m) := fun n => ((hf1 n).cell (p := ⟨w.heap.size + 1, 2, none⟩) X1.out.lt).trans (X1.out.cell 2 _ rfl)
  have k3 : ∀ n, (f n).cell? ⟨w.heap.size + 1, 3, none⟩ = some (.slice ad2 t2.parts.length cap2) := fun n => ((hf1 n).cell (p := ⟨w.heap.size + 1, 3, none⟩) X1.out.lt).trans (X1.out.cell 3 _ rfl)
  have m0 : ∀ n, (f n).cell? ⟨w.heap.size + 1 + 1, 0, none⟩ = some (.int .i64 r1) := fun n => ((hf1 n).cell (p := ⟨w.heap.size + 1 + 1, 0, none⟩) X2.out.lt).trans (X2.out.cell 0 _ rfl)
  have m1 : ∀ n, (f n).cell? ⟨w.heap.size + 1 + 1, 1, none⟩ = some (.int .i64 r2) := fun n => ((hf1 n).cell (p := ⟨w.heap.size + 1 + 1, 1, none⟩) X2.out.lt).trans (X2.out.cell 1 _ rfl)
  have m2 : ∀ n, (f n).cell? ⟨w.heap.size + 1 + 1, 2, none⟩ = some (.int .i64 r3) := fun n => ((hf1 n).cell (p := ⟨w.heap.size + 1 + 1, 2, none⟩) X2.out.lt).trans (X2.out.cell 2 _ rfl)
  have o0 : ∀ n, (f n).cell? ⟨w3.heap.size, 0, none⟩ = some (.int .i64 r1) := fun n => ((hf1 n).cell (p := ⟨w3.heap.size, 0, none⟩) X3.out.lt).trans (X3.out.cell 0 _ rfl)
  have o1 : ∀ n, (f n).cell? ⟨w3.heap.size, 1, none⟩ = some (.int .i64 r2) := fun n => ((hf1 n).cell (p := ⟨w3.heap.size, 1, none⟩) X3.out.lt).trans (X3.out.cell 1 _ rfl)
  have o2 : ∀ n, (f n).cell? ⟨w3.heap.size, 2, none⟩ = some (.int .i64 r3) := fun n => ((hf1 n).cell (p := ⟨w3.heap.size, 2, none⟩) X3.out.lt).trans (X3.out.cell 2 _ rfl)
  clear hf1 hf2
  refine wp_region_calm f (by kernel_rfl) (by kernel_rfl) (HF2.out _ (Below.refl _ _).drew) ?_
  repeat (go_big_quiet_step (first | (go_at_call 12; with_reducible refine Calls.mono (HSo.out _ (cbelow_on B4.out (HF1.out _) B4.out.size)) ?_; rintro e W1 ⟨rfl, b5⟩; exact ⟨rfl, HF2.out _ (cbelow_on (HF1.out _) b5 (HF1.out _).size)⟩) | (go_at_call 13; with_reducible refine Calls.mono (HSd.out _ (cbelow_on B4.out (HF1.out _) B4.out.size)) ?_; rintro e W1 ⟨rfl, b5⟩; exact ⟨rfl, HF2.out _ (cbelow_on (HF1.out _) b5 (HF1.out _).size)⟩) | (go_at_call 14; with_reducible refine Calls.mono (HNo.out _ (cbelow_on B4.out (HF1.out _) B4.out.size)) ?_; rintro e W1 ⟨rfl, b5⟩; exact ⟨rfl, HF2.out _ (cbelow_on (HF1.out _) b5 (HF1.out _).size)⟩) | (go_at_call 15; with_reducible refine Calls.mono (HNr.out _ (cbelow_on B4.out (HF1.out _) B4.out.size)) ?_; rintro e W1 ⟨rfl, b5⟩; exact ⟨rfl, HF2.out _ (cbelow_on (HF1.out _) b5 (HF1.out _).size)⟩) | (go_at_call 16; with_reducible refine Calls.mono (HSa.out _ (cbelow_on B4.out (HF1.out _) B4.out.size)) ?_; rintro e W1 ⟨rfl, b5⟩; exact ⟨rfl, HF2.out _ (cbelow_on (HF1.out _) b5 (HF1.out _).size)⟩) | (go_at_call 17; with_reducible refine Calls.mono (HSr.out _ (cbelow_on B4.out (HF1.out _) B4.out.size)) ?_; rintro e W1 ⟨rfl, b5⟩; exact ⟨rfl, HF2.out _ (cbelow_on (HF1.out _) b5 (HF1.out _).size)⟩) | (go_at_call 16; with_reducible refine Calls.mono (HSt.out _ (cbelow_on B4.out (HF1.out _) B4.out.size)) ?_; rintro e W1 ⟨rfl, b5⟩; exact ⟨rfl, HF2.out _ (cbelow_on (HF1.out _) b5 (HF1.out _).size)⟩)))
  refine wpQuiet_nil ?_
  intro w5 hw5
  obtain ⟨n5, rfl⟩ := hw5
  have HV := chid (HF1.out n5)
  have B5 := chid (cbelow_on B4.out HV.out B4.out.size)
  clear p0 p1 p2 p3 k0 k1 k2 k3 m0 m1 m2 o0 o1 o2
  generalize f n5 = w5 at *
  go_wp2_with fail
  go_ret
  exact ⟨rfl, B5.out⟩
end Go.Proofs.YtkhdcojgcnomgaaGreatDoor
end

/- The document's Sort, walked: operations of one part. -/
import Derived.Test.YtigldebdljfnbaaDoorMgR
namespace Go.Proofs.YtigldebdljfnbaaDoor
open Go.RowKit

set_option maxHeartbeats 40000000 in
set_option maxRecDepth 20000 in
theorem rSort_H0 (wn cn ln : Int) (h64 : C64 wn ∧ C64 cn ∧ C64 ln) (t : Co) (ih : ∀ x, x ∈ t.parts → RSo wn cn ln x) (k : Nat) (hkk : t.op = (k : Int)) (hks : k = 7 ∨ k = 8 ∨ k = 9 ∨ k = 10 ∨ k = 11 ∨ k = 12 ∨ k = 13 ∨ k = 30 ∨ k = 31) (hfit : fitsB k wn cn ln t = true) (hlq : t.parts.length = 1) : RSo wn cn ln t := by
  intro v w hs hn
  have HF := chid hs.fit
  have HI := chid ih
  have HS := chid hs
  have H64 := chid h64
  obtain ⟨ad, cap, rfl, hc1, hc2⟩ := hs.parts.shape
  obtain ⟨L, hL⟩ : ∃ L, Hid (L = t.parts.length) := ⟨_, chid rfl⟩
  rw [← hL.out] at hc1 HS ⊢
  obtain ⟨R, hR⟩ : ∃ R, Hid (R = csort ladF wn cn ln t) := ⟨_, chid rfl⟩
  rw [← hR.out]
  obtain ⟨Y0, Y1, B0⟩ := two_boxes w 78 30 [.int .i64 wn, .int .i64 cn, .int .i64 ln] (coL t (.slice ad L cap))
  obtain ⟨w0, hw0⟩ : ∃ w0, Hid (w0 = (w.alloc (.cells [.int .i64 wn, .int .i64 cn, .int .i64 ln].toArray 78)).alloc (.cells (coL t (.slice ad L cap)).toArray 30)) := ⟨_, chid rfl⟩
  rw [← hw0.out] at Y0 Y1 B0
  have X0 := chid Y0
  have X1 := chid Y1
  have HB0 := chid B0
  clear hs ih h64 Y0 Y1 B0
  have a0 := X0.out.cell 0 _ rfl
  have a1 := X0.out.cell 1 _ rfl
  have a2 := X0.out.cell 2 _ rfl
  have c0 := X1.out.cell 0 _ rfl
  have c1 := X1.out.cell 1 _ rfl
  have c2 := X1.out.cell 2 _ rfl
  have c3 := X1.out.cell 3 _ rfl
  have l0 := X0.out.lt
  have l1 := X1.out.lt
  have HK := chid (show 1 ≤ k ∧ k ≤ 32 by omega)
  have hLq : Hid (L = 1) := by show _ = _; rw [hL.out]; exact hlq
  obtain ⟨n0, hn0⟩ : ∃ n0 : Int, Hid (n0 = arT.getD k (-2)) := ⟨_, chid rfl⟩
  have HAr : Hid (∀ W, Calls Tryd.prog 32 #[.int .i64 t.op] W fun e w' => e = .returned (.int .i64 n0) ∧ w' = W) := by rw [hkk, hn0.out]; exact chid (arity_in k HK.out.1 HK.out.2)
  have e : n0 = (L : Int) := by
    rw [hn0.out, hLq.out]
    rcases hks with rfl | rfl | rfl | rfl | rfl | rfl | rfl | rfl | rfl <;> rfl
  subst e
  have HFi := chid (fun W => rfields_c k wn cn ln H64.out t hkk HF.out ad L cap W)
  rw [hfit] at HFi
  have HKo := chid hkk
  have hl3 : L ≤ 3 := by have := hLq.out; omega
  clear hkk hn0 hlq
  go_enter Tryd.func20, Tryd.ntmps20
  go_wp2_with fail
  refine Calls.mono (HAr.out _) ?_
  rintro e w1 ⟨rfl, rfl⟩
  rw [← hw0.out]
  go_wp2_with fail
  refine Calls.mono (HFi.out _) ?_
  rintro e w5 ⟨rfl, b5⟩
  have HB5 := chid (cbelow_on HB0.out b5 HB0.out.size)
  replace X0 := chid (X0.out.next b5)
  replace X1 := chid (X1.out.next b5)
  clear a0 a1 a2 c0 c1 c2 c3 l0 l1
  clear b5
  have a0 := X0.out.cell 0 _ rfl
  have a1 := X0.out.cell 1 _ rfl
  have a2 := X0.out.cell 2 _ rfl
  have c0 := X1.out.cell 0 _ rfl
  have c1 := X1.out.cell 1 _ rfl
  have c2 := X1.out.cell 2 _ rfl
  have c3 := X1.out.cell 3 _ rfl
  have l0 := X0.out.lt
  have l1 := X1.out.lt
  go_wp2_with fail
  clear a0 a1 a2 c0 c1 c2 c3 l0 l1
  obtain ⟨ss, hss⟩ : ∃ ss, Hid (ss = t.parts.map (csort ladF wn cn ln)) := ⟨_, chid rfl⟩
  obtain ⟨w6, hw6⟩ : ∃ w6, Hid (w6 = w5.alloc (.cells #[.int .i64 0, .int .i64 0, .int .i64 0] 93)) := ⟨_, chid rfl⟩
  have HZ : Hid (Box w6 w5.heap.size (padL ss 0)) := by rw [hw6.out]; exact chid (Box.new w5 [.int .i64 0, .int .i64 0, .int .i64 0] 93)
  have HB6 : Hid (Below w5.heap.size w5 w6) := by rw [hw6.out]; exact chid ((Below.refl _ _).alloc (Nat.le_refl _) _)
  rw [← hw6.out]
  clear hw6
  go_loopw [7] (fun i wr => ∃ j : Nat, i = .int .i64 (j : Nat) ∧ j ≤ L ∧ Hid (Box wr w5.heap.size (padL ss j)) ∧ Hid (Below w5.heap.size w5 wr)) (fun i _ => match i with | .int _ p => L - p.toNat | _ => 0)
  case atStart => exact ⟨0, rfl, by omega, HZ.out, HB6.out⟩
  case round =>
    obtain ⟨j, rfl, hj, HP, HW⟩ := hrel
    have HBw := chid (cbelow_on HB5.out HW.out HB5.out.size)
    have Y0 := X0.out.next HW.out
    have Y1 := X1.out.next HW.out
    have a0 := Y0.cell 0 _ rfl
    have a1 := Y0.cell 1 _ rfl
    have a2 := Y0.cell 2 _ rfl
    have c0 := Y1.cell 0 _ rfl
    have c1 := Y1.cell 1 _ rfl
    have c2 := Y1.cell 2 _ rfl
    have c3 := Y1.cell 3 _ rfl
    have l0 := Y0.lt
    have l1 := Y1.lt
    by_cases hlt : j < L
    · have hlt' : (j : Int) < (L : Int) := by omega
      have hj3 : (j : Int) < 3 := by omega
      have hl1 : j < t.parts.length := by rw [← hL.out]; exact hlt
      obtain ⟨b, off, cap', ev, -, -, hbl, hx⟩ := HS.out.parts.open (by omega)
      simp only [Value.slice.injEq] at ev
      obtain ⟨rfl, -, rfl⟩ := ev
      obtain ⟨u1, f1, v1⟩ := hx j hl1
      have HC1 := chid (fun W (hW : Below w.heap.size w W) => HI.out _ (List.getElem_mem hl1) u1 W (v1.next hW) (Nat.le_trans (Nat.le_of_lt (cnodes_part (List.getElem_mem hl1))) hn))
      obtain ⟨ad1, cap1, rfl, -, -⟩ := v1.parts.shape
      obtain ⟨p0, p1, p2, p3⟩ := f1.keep (w' := wr) (fun q => HBw.out.cell (p := ⟨b, q, none⟩) hbl)
      have bl : b < wr.heap.size := Nat.lt_of_lt_of_le hbl HBw.out.size
      have bs : b < w5.heap.size := Nat.lt_of_lt_of_le hbl HB5.out.size
      have hs1 : csort ladF wn cn ln t.parts[j] = ss.getD j 0 := by rw [hss.out, getD_map t.parts hl1]; congr 1; simp [List.getD, List.getElem?_eq_getElem hl1]
      rw [hs1] at HC1
      clear hs1 hx f1 v1 Y0 Y1
      generalize t.parts[j] = t1 at *
      obtain ⟨y, zj, fj⟩ : ∃ y, wr.cell? ⟨w5.heap.size, j, none⟩ = some (.int .i64 y) ∧ wr.frozen? ⟨w5.heap.size, j, none⟩ = false := pad_cell HP.out (by omega)
      have sl := HP.out.lt
      have n1 : w.heap.size ≠ w5.heap.size := by have := X0.out.lt; omega
      have n1' : w5.heap.size ≠ w.heap.size := by have := X0.out.lt; omega
      have n2 : w.heap.size + 1 ≠ w5.heap.size := by have := X1.out.lt; omega
      have n2' : w5.heap.size ≠ w.heap.size + 1 := by have := X1.out.lt; omega
      have n3 : b ≠ w5.heap.size := by omega
      have n3' : w5.heap.size ≠ b := by omega
      clear bs hks
      go_wp2_with fail
      go_region_held3 (fun w' => w'.cell? ⟨w.heap.size, 0, none⟩ = some (.int .i64 wn) ∧ w'.cell? ⟨w.heap.size, 1, none⟩ = some (.int .i64 cn) ∧ w'.cell? ⟨w.heap.size, 2, none⟩ = some (.int .i64 ln) ∧ w'.cell? ⟨w.heap.size + 1, 3, none⟩ = some (.slice (some ⟨b, off, none⟩) L cap) ∧ w'.cell? ⟨b, off + j * 4, none⟩ = some (.int .i64 t1.op) ∧ w'.cell? ⟨b, off + j * 4 + 1, none⟩ = some (.int .i64 t1.n) ∧ w'.cell? ⟨b, off + j * 4 + 2, none⟩ = some (.int .i64 t1.m) ∧ w'.cell? ⟨b, off + j * 4 + 3, none⟩ = some (.slice ad1 t1.parts.length cap1)) (simp [go_sem, *]) (first | (go_at_call 20; refine Calls.mono (HC1.out _ (by exact cdrewN HBw.out _)) ?_; rintro e w7 ⟨rfl, b7⟩; have HV : Hid (Below wr.heap.size wr w7) := ⟨b7.os, b7.tape, b7.output, b7.size, b7.block⟩; have g0 := fun p v hp hv => (b7.cell (p := p) hp).trans (hv : wr.cell? p = some v); replace a0 := g0 _ _ l0 a0; replace a1 := g0 _ _ l0 a1; replace a2 := g0 _ _ l0 a2; replace c3 := g0 _ _ l1 c3; replace p0 := g0 _ _ bl p0; replace p1 := g0 _ _ bl p1; replace p2 := g0 _ _ bl p2; replace p3 := g0 _ _ bl p3; replace zj := g0 _ _ sl zj; have HP7 := chid (HP.out.next HV.out); replace fj := HP7.out.free j (show j < 3 by omega); have HW7 := chid (cbelow_on HW.out HV.out HW.out.size); replace l0 := Nat.lt_of_lt_of_le l0 HV.out.size; replace l1 := Nat.lt_of_lt_of_le l1 HV.out.size; replace bl := Nat.lt_of_lt_of_le bl HV.out.size; replace sl := Nat.lt_of_lt_of_le sl HV.out.size; clear g0 b7))
      go_wp
      refine ⟨?_, ?_⟩
      · repeat apply Exists.intro
        refine ⟨?_, rfl⟩
        exact ⟨j + 1, by go_num, by omega, chid (by rw [← padL_next ss j (by omega)]; exact HP7.out.set j (show j < 3 by omega) _), chid (HW7.out.setCell (p := ⟨w5.heap.size, j, none⟩) (Nat.le_refl _) _)⟩
      · simp; omega
    · have hlt' : ¬ (j : Int) < (L : Int) := by omega
      obtain rfl : j = L := by omega
      have HRg := chid (fun x (hx : x ∈ ss) => (by rw [hss.out] at hx; obtain ⟨y, _, rfl⟩ := List.mem_map.1 hx; exact csort_range wn cn ln y : 0 ≤ x ∧ x ≤ 3))
      have HLs : Hid (ss.length = j) := by show _ = _; rw [hss.out, hL.out]; simp
      have HRv : Hid (R = if ss.contains 0 = true then 0 else sortF ladF k t ss) := by show _ = _; rw [hR.out]; exact csort_fit wn cn ln t k HKo.out HK.out.1 HK.out.2 hfit ss hss.out
      clear hR hss HI HS HFi HAr hfit X0 X1 Y0 Y1 hlt hlt' hj hl3 hc1 hc2 a0 a1 a2 c1 c3
      have hlq := hLq.out
      clear hLq
      subst hlq
      obtain ⟨x, rfl⟩ := one_list ss HLs.out
      have hx := HRg.out x (by simp)
      have z0 := HP.out.cell 0 _ rfl
      have z1 := HP.out.cell 1 _ rfl
      have z2 := HP.out.cell 2 _ rfl
      have zl := HP.out.lt
      change _ = some (Value.int .i64 x) at z0
      change _ = some (Value.int .i64 0) at z1
      change _ = some (Value.int .i64 0) at z2
      clear HP HLs HRg
      by_cases e1 : x = 1
      · subst e1; rcases hks with rfl | rfl | rfl | rfl | rfl | rfl | rfl | rfl | rfl <;> as_aux_lemma => (have ho := HKo.out; rw [ho] at c0; have hv : R = _ := HRv.out; simp [sortF, mkT, mkF, alikeF] at hv; subst hv; clear HKo HRv; go_wp2_with fail; all_goals (repeat (go_quiet (fail); go_wp2_with fail)); all_goals (go_ret; exact ⟨rfl, by first | exact HBw.out | exact HBw.out.drew | exact cdrewN HBw.out _⟩))
      by_cases e2 : x = 2
      · subst e2; rcases hks with rfl | rfl | rfl | rfl | rfl | rfl | rfl | rfl | rfl <;> as_aux_lemma => (have ho := HKo.out; rw [ho] at c0; have hv : R = _ := HRv.out; simp [sortF, mkT, mkF, alikeF] at hv; subst hv; clear HKo HRv; go_wp2_with fail; all_goals (repeat (go_quiet (fail); go_wp2_with fail)); all_goals (go_ret; exact ⟨rfl, by first | exact HBw.out | exact HBw.out.drew | exact cdrewN HBw.out _⟩))
      have d1 : (x == 1) = false := by simpa using e1
      have d2 : (x == 2) = false := by simpa using e2
      have hx03 : x = 0 ∨ x = 3 := by omega
      rcases hks with rfl | rfl | rfl | rfl | rfl | rfl | rfl | rfl | rfl <;> as_aux_lemma => (have ho := HKo.out; rw [ho] at c0; have hv : R = _ := HRv.out; have h0 : R = 0 := (by rw [hv]; rcases hx03 with rfl | rfl <;> rfl); subst h0; clear HKo HRv hv hx03 e1 e2 hx; go_wp2_with fail; all_goals (repeat (go_quiet (fail); go_wp2_with fail)); all_goals (go_ret; exact ⟨rfl, by first | exact HBw.out | exact HBw.out.drew | exact cdrewN HBw.out _⟩))

end Go.Proofs.YtigldebdljfnbaaDoor

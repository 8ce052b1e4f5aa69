/- The document's ladder, walked. -/
import Derived.Test.YtaombbbblgfgdaaGreatDoorMgR
import Derived.Test.YtaombbbblgfgdaaGreatDoorMgZ
namespace Go.Proofs.YtaombbbblgfgdaaGreatDoor
open Go.RowKit

set_option maxHeartbeats 4000000 in
set_option maxRecDepth 20000 in
theorem rladder_c (wn cn ln : Int) (c : Co) (hn : cnodes c ≤ 8192) (ih : ∀ x, x ∈ c.parts → RSo wn cn ln x) (v : Value) (w : World) (hs : CAt w v c.parts) (R : Bool) (hR : R = true ↔ LadD c (c.parts.map (csort ladF wn cn ln))) :
    Calls Tryz.prog 63 #[roomV wn cn ln, v] w fun e w' => e = .returned (.bool R) ∧ Below w.heap.size w w' := by
  obtain ⟨ad, cap, rfl, hc1, hc2⟩ := hs.shape
  have HI := chid (fun x hx u W hu => ih x hx u W hu (Nat.le_trans (Nat.le_of_lt (cnodes_part hx)) hn))
  have hsm : c.parts.length ≤ 8192 := by have := length_cnodesL c.parts; have := cnodes_eq c; omega
  have HP := chid hs
  have HR := chid hR
  obtain ⟨N, hN⟩ : ∃ N, Hid (N = c.parts.length) := ⟨_, rfl⟩
  obtain ⟨ss, hss⟩ : ∃ ss, Hid (ss = c.parts.map (csort ladF wn cn ln)) := ⟨_, rfl⟩
  rw [← hss.out] at HR
  have hsl : Hid (ss.length = N) := by show _ = _; rw [hss.out, hN.out]; simp
  rw [← hN.out] at HP hc1 hsm ⊢
  have BX : Hid (∀ ty, Box (w.alloc (.cells #[.int .i64 wn, .int .i64 cn, .int .i64 ln] ty)) w.heap.size [.int .i64 wn, .int .i64 cn, .int .i64 ln]) := fun ty => Box.new w [.int .i64 wn, .int .i64 cn, .int .i64 ln] ty
  have HA : Hid (∀ o, Below w.heap.size w (w.alloc o)) := fun o => (Below.refl _ _).alloc (Nat.le_refl _) _
  clear ih hs hR hn
  by_cases a2 : N < 2
  · have h0 : R = false := bfalse HR.out (fun h => by have := h.1; have := hsl.out; omega)
    subst h0
    have b2 : (N : Int) < 2 := by omega
    go_enter Tryz.func63, Tryz.ntmps63
    go_wp2_with fail
    go_quiet (fail)
    go_wp2_with fail
    go_ret
    exact ⟨rfl, by first | exact HA.out _ | exact cdrewN (HA.out _) _⟩
  have b2 : decide ((N : Int) < 2) = false := by simp; omega
  have i0 : 0 < N := by omega
  by_cases a3 : N % 2 = 0
  case neg =>
    have h0 : R = false := bfalse HR.out (fun h => by have := h.2.1; have := hsl.out; omega)
    subst h0
    have b3 : Int.tmod (N : Int) 2 = 1 := by rw [Int.tmod_eq_emod_of_nonneg (by omega)]; omega
    go_enter Tryz.func63, Tryz.ntmps63
    go_wp2_with fail
    go_quiet (fail)
    go_wp2_with fail
    go_ret
    exact ⟨rfl, by first | exact HA.out _ | exact cdrewN (HA.out _) _⟩
  have b3 : Int.tmod (N : Int) 2 = 0 := by rw [Int.tmod_eq_emod_of_nonneg (by omega)]; omega
  obtain ⟨b, off, cap', ev, -, -, hbl, hx⟩ := HP.out.open (by rw [← hN.out]; omega)
  simp only [Value.slice.injEq] at ev
  obtain ⟨rfl, -, rfl⟩ := ev
  have l0 : 0 < c.parts.length := by rw [← hN.out]; omega
  obtain ⟨u0, f0, s0⟩ := hx 0 l0
  have HXw := chid hx
  have HC0 := chid (fun W (hW : Below w.heap.size w W) => HI.out _ (List.getElem_mem l0) u0 W (s0.next hW))
  have hz0 : csort ladF wn cn ln c.parts[0] = ss.getD 0 0 := by rw [hss.out, getD_map c.parts l0]; congr 1; simp [List.getD, List.getElem?_eq_getElem l0]
  rw [hz0] at HC0
  obtain ⟨ad0, cap0, rfl, -, -⟩ := s0.parts.shape
  generalize c.parts[0] = t0 at *
  obtain ⟨w0, hw0⟩ : ∃ w0, Hid (w0 = w.alloc (.cells #[.int .i64 wn, .int .i64 cn, .int .i64 ln] 74)) := ⟨_, rfl⟩
  have HX : Hid (Box w0 w.heap.size [.int .i64 wn, .int .i64 cn, .int .i64 ln]) := by rw [hw0.out]; exact BX.out _
  have HB0 : Hid (Below w.heap.size w w0) := by rw [hw0.out]; exact chid (HA.out _)
  have HF0 := chid (f0.keep (w' := w0) (fun q => HB0.out.cell (p := ⟨b, q, none⟩) hbl))
  have bl0 : b < w0.heap.size := Nat.lt_of_lt_of_le hbl HB0.out.size
  have r0 := HX.out.cell 0 _ rfl
  have r1 := HX.out.cell 1 _ rfl
  have r2 := HX.out.cell 2 _ rfl
  have rl := HX.out.lt
  have d0 := HF0.out.c0
  have d1 := HF0.out.c1
  have d2 := HF0.out.c2
  have d3 := HF0.out.c3
  simp only [Nat.zero_mul, Nat.add_zero] at d0 d1 d2 d3
  clear f0 s0 hz0 BX HA HF0
  by_cases a4 : ss.getD 0 0 = 1
  case neg =>
    have h0 : R = false := bfalse HR.out (fun h => a4 h.2.2.1)
    subst h0
    have d4 : (ss.getD 0 0 != 1) = true := by simpa using a4
    generalize ss.getD 0 0 = x0 at *
    go_enter Tryz.func63, Tryz.ntmps63
    go_wp2_with fail
    rw [← hw0.out]
    go_region_held3 (fun w' => (w'.cell? ⟨w.heap.size, 0, none⟩ = some (.int .i64 wn) ∧ w'.cell? ⟨w.heap.size, 1, none⟩ = some (.int .i64 cn) ∧ w'.cell? ⟨w.heap.size, 2, none⟩ = some (.int .i64 ln)) ∧ (w'.cell? ⟨b, off, none⟩ = some (.int .i64 t0.op) ∧ w'.cell? ⟨b, off + 1, none⟩ = some (.int .i64 t0.n) ∧ w'.cell? ⟨b, off + 2, none⟩ = some (.int .i64 t0.m) ∧ w'.cell? ⟨b, off + 3, none⟩ = some (.slice ad0 t0.parts.length cap0))) (simp [go_sem, *]) (first | (go_at_call 30; refine Calls.mono (HC0.out _ (by exact cdrewN HB0.out _)) ?_; rintro e w1 ⟨rfl, b1⟩; have g0 := fun p v hp hv => (b1.cell (p := p) hp).trans (hv : w0.cell? p = some v); replace r0 := g0 _ _ rl r0; replace r1 := g0 _ _ rl r1; replace r2 := g0 _ _ rl r2; replace d0 := g0 _ _ bl0 d0; replace d1 := g0 _ _ bl0 d1; replace d2 := g0 _ _ bl0 d2; replace d3 := g0 _ _ bl0 d3; have Hu : Hid (Below w0.heap.size w0 w1) := ⟨b1.os, b1.tape, b1.output, b1.size, b1.block⟩; clear g0 b1))
    go_wp2_with fail
    go_ret
    exact ⟨rfl, cbelow_on HB0.out Hu.out HB0.out.size⟩
  rw [a4] at HC0
  go_enter Tryz.func63, Tryz.ntmps63
  go_wp2_with fail
  rw [← hw0.out]
  go_region_held3 (fun w' => (w'.cell? ⟨w.heap.size, 0, none⟩ = some (.int .i64 wn) ∧ w'.cell? ⟨w.heap.size, 1, none⟩ = some (.int .i64 cn) ∧ w'.cell? ⟨w.heap.size, 2, none⟩ = some (.int .i64 ln)) ∧ (w'.cell? ⟨b, off, none⟩ = some (.int .i64 t0.op) ∧ w'.cell? ⟨b, off + 1, none⟩ = some (.int .i64 t0.n) ∧ w'.cell? ⟨b, off + 2, none⟩ = some (.int .i64 t0.m) ∧ w'.cell? ⟨b, off + 3, none⟩ = some (.slice ad0 t0.parts.length cap0))) (simp [go_sem, *]) (first | (go_at_call 30; refine Calls.mono (HC0.out _ (by exact cdrewN HB0.out _)) ?_; rintro e w1 ⟨rfl, b1⟩; have g0 := fun p v hp hv => (b1.cell (p := p) hp).trans (hv : w0.cell? p = some v); replace r0 := g0 _ _ rl r0; replace r1 := g0 _ _ rl r1; replace r2 := g0 _ _ rl r2; replace d0 := g0 _ _ bl0 d0; replace d1 := g0 _ _ bl0 d1; replace d2 := g0 _ _ bl0 d2; replace d3 := g0 _ _ bl0 d3; have Hu : Hid (Below w0.heap.size w0 w1) := ⟨b1.os, b1.tape, b1.output, b1.size, b1.block⟩; clear g0 b1))
  clear r0 r1 r2 rl d0 d1 d2 d3 HC0 hw0 b2 b3
  obtain ⟨M, rfl⟩ : ∃ M, N = M + 1 := ⟨N - 1, by omega⟩
  have hM : 1 ≤ M := by omega
  have x0 := HX.out.lt
  go_wp2_with fail
  go_loopw [6] (fun i wr => ∃ i0 : Nat, i = .int .i64 (i0 : Nat) ∧ i0 ≤ M ∧ Hid (i0 % 2 = 1) ∧ Hid (∀ q, q % 2 = 1 → q < i0 → dstep c ss q) ∧ Hid (Below w1.heap.size w1 wr)) (fun i _ => match i with | .int _ p => M + 1 - p.toNat | _ => 0)
  case atStart => exact ⟨1, rfl, hM, chid rfl, (fun q h1 h2 => by omega), Below.refl _ _⟩
  case round =>
    obtain ⟨i, rfl, hj, HO, HQ, HW⟩ := hrel
    have HB1 := chid (cbelow_on Hu.out HW.out Hu.out.size)
    have HBw := chid (cbelow_on HB0.out HB1.out HB0.out.size)
    have XR := HX.out.next HB1.out
    have r0 := XR.cell 0 _ rfl
    have r1 := XR.cell 1 _ rfl
    have r2 := XR.cell 2 _ rfl
    have rl := XR.lt
    have bl : b < wr.heap.size := Nat.lt_of_lt_of_le hbl HBw.out.size
    clear XR
    by_cases hlt : i < M
    · have hlt' : (i : Int) < (M : Int) := by omega
      have hi0 : (0 : Int) ≤ (i : Int) := by omega
      have hi1 : (i : Int) < (M : Int) + 1 := by omega
      have hi2 : (i : Int) ≤ (M : Int) := by omega
      have hi3 : i < M + 1 := by omega
      have hc3 : (M : Int) + 1 ≤ 8192 := by omega
      have hl1 : i < c.parts.length := by have := hN.out; omega
      have hl2 : i + 1 < c.parts.length := by have := hN.out; omega
      have HNo : Hid (¬ dstep c ss i → R = false) := fun h => bfalse HR.out (fun k => h (k.2.2.2.1 i HO.out (by have := hsl.out; omega)))
      obtain ⟨u1, f1, v1⟩ := HXw.out i hl1
      obtain ⟨u2, f2, v2⟩ := HXw.out (i + 1) hl2
      have HC1 := chid (fun W (hW : Below w.heap.size w W) => HI.out _ (List.getElem_mem hl1) u1 W (v1.next hW))
      have HC2 := chid (fun W (hW : Below w.heap.size w W) => HI.out _ (List.getElem_mem hl2) u2 W (v2.next hW))
      obtain ⟨ad1, cap1, rfl, -, -⟩ := v1.parts.shape
      obtain ⟨ad2, cap2, rfl, -, -⟩ := v2.parts.shape
      obtain ⟨p0, p1, p2, p3⟩ := f1.keep (w' := wr) (fun q => HBw.out.cell (p := ⟨b, q, none⟩) hbl)
      obtain ⟨k0, k1, k2, k3⟩ := f2.keep (w' := wr) (fun q => HBw.out.cell (p := ⟨b, q, none⟩) hbl)
      have Ho1 : Hid (c.parts.getD i co0 = c.parts[i]) := by show _ = _; simp [List.getD, List.getElem?_eq_getElem hl1]
      obtain ⟨s1, hs1⟩ : ∃ s1, Hid (s1 = csort ladF wn cn ln c.parts[i]) := ⟨_, chid rfl⟩
      obtain ⟨s2, hs2⟩ : ∃ s2, Hid (s2 = csort ladF wn cn ln c.parts[i + 1]) := ⟨_, chid rfl⟩
      rw [← hs1.out] at HC1
      rw [← hs2.out] at HC2
      have Hs1 : Hid (s1 = ss.getD i 0) := by show _ = _; rw [hs1.out, hss.out, getD_map c.parts hl1, Ho1.out]
      have Hs2 : Hid (s2 = ss.getD (i + 1) 0) := by show _ = _; rw [hs2.out, hss.out, getD_map c.parts hl2]; congr 1; simp [List.getD, List.getElem?_eq_getElem hl2]
      generalize c.parts[i] = t1 at *
      generalize c.parts[i + 1] = t2 at *
      clear f1 f2 v1 v2 hs1 hs2
      by_cases q1 : t1.op = 1
      case neg =>
        have h0 : R = false := HNo.out (fun h => q1 (by rw [← Ho1.out]; exact h.1))
        subst h0
        have d4 : (t1.op != 1) = true := by simpa using q1
        clear HC1 HC2
        go_wp2_with fail
        go_quiet (fail)
        go_wp2_with fail
        go_ret
        exact ⟨rfl, by first | exact HBw.out | exact HBw.out.drew | exact cdrewN HBw.out _⟩
      have d4 : (t1.op != 1) = false := by simpa using q1
      have Hq1 := chid q1
      clear q1
      by_cases q2 : s1 = 1
      case neg =>
        have h0 : R = false := HNo.out (fun h => q2 (by rw [Hs1.out]; exact h.2.1))
        subst h0
        have d5 : (s1 != 1) = true := by simpa using q2
        clear HC2
        go_wp2_with fail
        obtain ⟨f, hf1, hf2⟩ := calm wr
        have HF1 := chid hf1
        have HF2 := chid hf2
        have r0' : ∀ n, (f n).cell? ⟨w.heap.size, 0, none⟩ = some (.int .i64 wn) := fun n => ((hf1 n).cell (p := ⟨w.heap.size, 0, none⟩) rl).trans r0
        have r1' : ∀ n, (f n).cell? ⟨w.heap.size, 1, none⟩ = some (.int .i64 cn) := fun n => ((hf1 n).cell (p := ⟨w.heap.size, 1, none⟩) rl).trans r1
        have r2' : ∀ n, (f n).cell? ⟨w.heap.size, 2, none⟩ = some (.int .i64 ln) := fun n => ((hf1 n).cell (p := ⟨w.heap.size, 2, none⟩) rl).trans r2
        have p0' : ∀ n, (f n).cell? ⟨b, off + (i) * 4, none⟩ = some (.int .i64 t1.op) := fun n => ((hf1 n).cell (p := ⟨b, off + (i) * 4, none⟩) bl).trans p0
        have p1' : ∀ n, (f n).cell? ⟨b, off + (i) * 4 + 1, none⟩ = some (.int .i64 t1.n) := fun n => ((hf1 n).cell (p := ⟨b, off + (i) * 4 + 1, none⟩) bl).trans p1
        have p2' : ∀ n, (f n).cell? ⟨b, off + (i) * 4 + 2, none⟩ = some (.int .i64 t1.m) := fun n => ((hf1 n).cell (p := ⟨b, off + (i) * 4 + 2, none⟩) bl).trans p2
        have p3' : ∀ n, (f n).cell? ⟨b, off + (i) * 4 + 3, none⟩ = some (.slice ad1 t1.parts.length cap1) := fun n => ((hf1 n).cell (p := ⟨b, off + (i) * 4 + 3, none⟩) bl).trans p3
        clear hf1 hf2 r0 r1 r2 p0 p1 p2 p3
        refine wp_region_calm f (by kernel_rfl) (by kernel_rfl) (HF2.out _ (Below.refl _ _).drew) ?_
        repeat (go_big_quiet_step (first | (go_at_call 30; with_reducible refine Calls.mono (HC1.out _ (cbelow_on HBw.out (HF1.out _) HBw.out.size)) ?_; rintro e W1 ⟨rfl, b5⟩; exact ⟨rfl, HF2.out _ (cbelow_on (HF1.out _) b5 (HF1.out _).size)⟩)))
        refine wpQuiet_nil ?_
        intro w5 hw5
        obtain ⟨n5, rfl⟩ := hw5
        have HV := chid (HF1.out n5)
        clear HF1 HF2 r0' r1' r2' p0' p1' p2' p3'
        generalize f n5 = w5 at *
        have HB5 := chid (cbelow_on HBw.out HV.out HBw.out.size)
        go_wp2_with fail
        go_ret
        exact ⟨rfl, HB5.out⟩
      subst q2
      by_cases q3 : 1 < i
      case neg =>
        have q4b : decide ((1 : Int) < (i : Int)) = false := decide_eq_false (by omega)
        have q4c : decide ((i : Int) > 1) = false := decide_eq_false (by omega)
        by_cases q5 : s2 = 3
        case neg =>
          have h0 : R = false := HNo.out (fun h => q5 (by rw [Hs2.out]; exact h.2.2.2))
          subst h0
          have d5 : (s2 != 3) = true := by simpa using q5
          go_wp2_with fail
          obtain ⟨f, hf1, hf2⟩ := calm wr
          have HF1 := chid hf1
          have HF2 := chid hf2
          have r0' : ∀ n, (f n).cell? ⟨w.heap.size, 0, none⟩ = some (.int .i64 wn) := fun n => ((hf1 n).cell (p := ⟨w.heap.size, 0, none⟩) rl).trans r0
          have r1' : ∀ n, (f n).cell? ⟨w.heap.size, 1, none⟩ = some (.int .i64 cn) := fun n => ((hf1 n).cell (p := ⟨w.heap.size, 1, none⟩) rl).trans r1
          have r2' : ∀ n, (f n).cell? ⟨w.heap.size, 2, none⟩ = some (.int .i64 ln) := fun n => ((hf1 n).cell (p := ⟨w.heap.size, 2, none⟩) rl).trans r2
          have p0' : ∀ n, (f n).cell? ⟨b, off + (i) * 4, none⟩ = some (.int .i64 t1.op) := fun n => ((hf1 n).cell (p := ⟨b, off + (i) * 4, none⟩) bl).trans p0
          have p1' : ∀ n, (f n).cell? ⟨b, off + (i) * 4 + 1, none⟩ = some (.int .i64 t1.n) := fun n => ((hf1 n).cell (p := ⟨b, off + (i) * 4 + 1, none⟩) bl).trans p1
          have p2' : ∀ n, (f n).cell? ⟨b, off + (i) * 4 + 2, none⟩ = some (.int .i64 t1.m) := fun n => ((hf1 n).cell (p := ⟨b, off + (i) * 4 + 2, none⟩) bl).trans p2
          have p3' : ∀ n, (f n).cell? ⟨b, off + (i) * 4 + 3, none⟩ = some (.slice ad1 t1.parts.length cap1) := fun n => ((hf1 n).cell (p := ⟨b, off + (i) * 4 + 3, none⟩) bl).trans p3
          have k0' : ∀ n, (f n).cell? ⟨b, off + (i + 1) * 4, none⟩ = some (.int .i64 t2.op) := fun n => ((hf1 n).cell (p := ⟨b, off + (i + 1) * 4, none⟩) bl).trans k0
          have k1' : ∀ n, (f n).cell? ⟨b, off + (i + 1) * 4 + 1, none⟩ = some (.int .i64 t2.n) := fun n => ((hf1 n).cell (p := ⟨b, off + (i + 1) * 4 + 1, none⟩) bl).trans k1
          have k2' : ∀ n, (f n).cell? ⟨b, off + (i + 1) * 4 + 2, none⟩ = some (.int .i64 t2.m) := fun n => ((hf1 n).cell (p := ⟨b, off + (i + 1) * 4 + 2, none⟩) bl).trans k2
          have k3' : ∀ n, (f n).cell? ⟨b, off + (i + 1) * 4 + 3, none⟩ = some (.slice ad2 t2.parts.length cap2) := fun n => ((hf1 n).cell (p := ⟨b, off + (i + 1) * 4 + 3, none⟩) bl).trans k3
          clear hf1 hf2 r0 r1 r2 p0 p1 p2 p3 k0 k1 k2 k3
          refine wp_region_calm f (by kernel_rfl) (by kernel_rfl) (HF2.out _ (Below.refl _ _).drew) ?_
          repeat (go_big_quiet_step (first | (go_at_call 30; with_reducible refine Calls.mono (HC1.out _ (cbelow_on HBw.out (HF1.out _) HBw.out.size)) ?_; rintro e W1 ⟨rfl, b5⟩; exact ⟨rfl, HF2.out _ (cbelow_on (HF1.out _) b5 (HF1.out _).size)⟩) | (go_at_call 30; with_reducible refine Calls.mono (HC2.out _ (cbelow_on HBw.out (HF1.out _) HBw.out.size)) ?_; rintro e W1 ⟨rfl, b5⟩; exact ⟨rfl, HF2.out _ (cbelow_on (HF1.out _) b5 (HF1.out _).size)⟩)))
          refine wpQuiet_nil ?_
          intro w5 hw5
          obtain ⟨n5, rfl⟩ := hw5
          have HV := chid (HF1.out n5)
          clear HF1 HF2 r0' r1' r2' p0' p1' p2' p3' k0' k1' k2' k3'
          generalize f n5 = w5 at *
          have HB5 := chid (cbelow_on HBw.out HV.out HBw.out.size)
          go_wp2_with fail
          go_ret
          exact ⟨rfl, HB5.out⟩
        subst q5
        have HQ2 : Hid (∀ q, q % 2 = 1 → q < i + 2 → dstep c ss q) := fun q h1 h2 => by
          by_cases e : q = i
          · rw [e]; exact ⟨by rw [Ho1.out]; exact Hq1.out, Hs1.out.symm, fun h => absurd h q3, Hs2.out.symm⟩
          · exact HQ.out q h1 (by have := HO.out; omega)
        go_wp2_with fail
        obtain ⟨f, hf1, hf2⟩ := calm wr
        have HF1 := chid hf1
        have HF2 := chid hf2
        have r0' : ∀ n, (f n).cell? ⟨w.heap.size, 0, none⟩ = some (.int .i64 wn) := fun n => ((hf1 n).cell (p := ⟨w.heap.size, 0, none⟩) rl).trans r0
        have r1' : ∀ n, (f n).cell? ⟨w.heap.size, 1, none⟩ = some (.int .i64 cn) := fun n => ((hf1 n).cell (p := ⟨w.heap.size, 1, none⟩) rl).trans r1
        have r2' : ∀ n, (f n).cell? ⟨w.heap.size, 2, none⟩ = some (.int .i64 ln) := fun n => ((hf1 n).cell (p := ⟨w.heap.size, 2, none⟩) rl).trans r2
        have p0' : ∀ n, (f n).cell? ⟨b, off + (i) * 4, none⟩ = some (.int .i64 t1.op) := fun n => ((hf1 n).cell (p := ⟨b, off + (i) * 4, none⟩) bl).trans p0
        have p1' : ∀ n, (f n).cell? ⟨b, off + (i) * 4 + 1, none⟩ = some (.int .i64 t1.n) := fun n => ((hf1 n).cell (p := ⟨b, off + (i) * 4 + 1, none⟩) bl).trans p1
        have p2' : ∀ n, (f n).cell? ⟨b, off + (i) * 4 + 2, none⟩ = some (.int .i64 t1.m) := fun n => ((hf1 n).cell (p := ⟨b, off + (i) * 4 + 2, none⟩) bl).trans p2
        have p3' : ∀ n, (f n).cell? ⟨b, off + (i) * 4 + 3, none⟩ = some (.slice ad1 t1.parts.length cap1) := fun n => ((hf1 n).cell (p := ⟨b, off + (i) * 4 + 3, none⟩) bl).trans p3
        have k0' : ∀ n, (f n).cell? ⟨b, off + (i + 1) * 4, none⟩ = some (.int .i64 t2.op) := fun n => ((hf1 n).cell (p := ⟨b, off + (i + 1) * 4, none⟩) bl).trans k0
        have k1' : ∀ n, (f n).cell? ⟨b, off + (i + 1) * 4 + 1, none⟩ = some (.int .i64 t2.n) := fun n => ((hf1 n).cell (p := ⟨b, off + (i + 1) * 4 + 1, none⟩) bl).trans k1
        have k2' : ∀ n, (f n).cell? ⟨b, off + (i + 1) * 4 + 2, none⟩ = some (.int .i64 t2.m) := fun n => ((hf1 n).cell (p := ⟨b, off + (i + 1) * 4 + 2, none⟩) bl).trans k2
        have k3' : ∀ n, (f n).cell? ⟨b, off + (i + 1) * 4 + 3, none⟩ = some (.slice ad2 t2.parts.length cap2) := fun n => ((hf1 n).cell (p := ⟨b, off + (i + 1) * 4 + 3, none⟩) bl).trans k3
        clear hf1 hf2 r0 r1 r2 p0 p1 p2 p3 k0 k1 k2 k3
        refine wp_region_calm f (by kernel_rfl) (by kernel_rfl) (HF2.out _ (Below.refl _ _).drew) ?_
        repeat (go_big_quiet_step (first | (go_at_call 30; with_reducible refine Calls.mono (HC1.out _ (cbelow_on HBw.out (HF1.out _) HBw.out.size)) ?_; rintro e W1 ⟨rfl, b5⟩; exact ⟨rfl, HF2.out _ (cbelow_on (HF1.out _) b5 (HF1.out _).size)⟩) | (go_at_call 30; with_reducible refine Calls.mono (HC2.out _ (cbelow_on HBw.out (HF1.out _) HBw.out.size)) ?_; rintro e W1 ⟨rfl, b5⟩; exact ⟨rfl, HF2.out _ (cbelow_on (HF1.out _) b5 (HF1.out _).size)⟩)))
        refine wpQuiet_nil ?_
        intro w5 hw5
        obtain ⟨n5, rfl⟩ := hw5
        have HV := chid (HF1.out n5)
        clear HF1 HF2 r0' r1' r2' p0' p1' p2' p3' k0' k1' k2' k3'
        generalize f n5 = w5 at *
        have HB5 := chid (cbelow_on HBw.out HV.out HBw.out.size)
        clear HC1 HC2
        go_wp2_with fail
        go_roundw
        case rel => exact ⟨i + 2, by go_num, by have := HO.out; omega, chid (by have := HO.out; omega), HQ2.out, chid (cbelow_on HW.out HV.out HW.out.size)⟩
        case measure => simp; omega
      obtain ⟨r, hr⟩ : ∃ r, Hid (i = r + 2) := ⟨i - 2, chid (by omega)⟩
      have hsub : (i : Int) - 2 = (r : Int) := by have := hr.out; omega
      have hr2 : (r : Int) < (M : Int) + 1 := by have := hr.out; omega
      have hr3 : r < M + 1 := by have := hr.out; omega
      have q4b : decide ((1 : Int) < (i : Int)) = true := decide_eq_true (by omega)
      have hlr : r < c.parts.length := by have := hN.out; have := hr.out; omega
      obtain ⟨u3, f3, -⟩ := HXw.out r hlr
      have z1 := (f3.keep (w' := wr) (fun q => HBw.out.cell (p := ⟨b, q, none⟩) hbl)).c1
      obtain ⟨x3, hx3⟩ : ∃ x3, Hid (x3 = c.parts[r].n) := ⟨_, chid rfl⟩
      rw [← hx3.out] at z1
      have Hx3 : Hid ((c.parts.getD r co0).n = x3) := by show _ = _; rw [hx3.out]; simp [List.getD, List.getElem?_eq_getElem hlr]
      clear f3 hx3
      by_cases q6 : x3 < t1.n
      case neg =>
        have h0 : R = false := HNo.out (fun h => q6 (by have k := h.2.2.1 q3; rw [Ho1.out, show i - 2 = r by have := hr.out; omega, Hx3.out] at k; exact k))
        subst h0
        have q7 : t1.n ≤ x3 := by omega
        have q8 : decide (t1.n ≤ x3) = true := decide_eq_true q7
        clear HC2
        go_wp2_with fail
        obtain ⟨f, hf1, hf2⟩ := calm wr
        have HF1 := chid hf1
        have HF2 := chid hf2
        have r0' : ∀ n, (f n).cell? ⟨w.heap.size, 0, none⟩ = some (.int .i64 wn) := fun n => ((hf1 n).cell (p := ⟨w.heap.size, 0, none⟩) rl).trans r0
        have r1' : ∀ n, (f n).cell? ⟨w.heap.size, 1, none⟩ = some (.int .i64 cn) := fun n => ((hf1 n).cell (p := ⟨w.heap.size, 1, none⟩) rl).trans r1
        have r2' : ∀ n, (f n).cell? ⟨w.heap.size, 2, none⟩ = some (.int .i64 ln) := fun n => ((hf1 n).cell (p := ⟨w.heap.size, 2, none⟩) rl).trans r2
        have p0' : ∀ n, (f n).cell? ⟨b, off + (i) * 4, none⟩ = some (.int .i64 t1.op) := fun n => ((hf1 n).cell (p := ⟨b, off + (i) * 4, none⟩) bl).trans p0
        have p1' : ∀ n, (f n).cell? ⟨b, off + (i) * 4 + 1, none⟩ = some (.int .i64 t1.n) := fun n => ((hf1 n).cell (p := ⟨b, off + (i) * 4 + 1, none⟩) bl).trans p1
        have p2' : ∀ n, (f n).cell? ⟨b, off + (i) * 4 + 2, none⟩ = some (.int .i64 t1.m) := fun n => ((hf1 n).cell (p := ⟨b, off + (i) * 4 + 2, none⟩) bl).trans p2
        have p3' : ∀ n, (f n).cell? ⟨b, off + (i) * 4 + 3, none⟩ = some (.slice ad1 t1.parts.length cap1) := fun n => ((hf1 n).cell (p := ⟨b, off + (i) * 4 + 3, none⟩) bl).trans p3
        have z1' : ∀ n, (f n).cell? ⟨b, off + r * 4 + 1, none⟩ = some (.int .i64 x3) := fun n => ((hf1 n).cell (p := ⟨b, off + r * 4 + 1, none⟩) bl).trans z1
        clear hf1 hf2 r0 r1 r2 p0 p1 p2 p3 z1
        refine wp_region_calm f (by kernel_rfl) (by kernel_rfl) (HF2.out _ (Below.refl _ _).drew) ?_
        repeat (go_big_quiet_step (first | (go_at_call 30; with_reducible refine Calls.mono (HC1.out _ (cbelow_on HBw.out (HF1.out _) HBw.out.size)) ?_; rintro e W1 ⟨rfl, b5⟩; exact ⟨rfl, HF2.out _ (cbelow_on (HF1.out _) b5 (HF1.out _).size)⟩)))
        refine wpQuiet_nil ?_
        intro w5 hw5
        obtain ⟨n5, rfl⟩ := hw5
        have HV := chid (HF1.out n5)
        clear HF1 HF2 r0' r1' r2' p0' p1' p2' p3' z1'
        generalize f n5 = w5 at *
        have HB5 := chid (cbelow_on HBw.out HV.out HBw.out.size)
        go_wp2_with fail
        go_ret
        exact ⟨rfl, HB5.out⟩
      have q7 : ¬ t1.n ≤ x3 := by omega
      have q8 : decide (t1.n ≤ x3) = false := decide_eq_false q7
      by_cases q5 : s2 = 3
      case neg =>
        have h0 : R = false := HNo.out (fun h => q5 (by rw [Hs2.out]; exact h.2.2.2))
        subst h0
        have d5 : (s2 != 3) = true := by simpa using q5
        go_wp2_with fail
        obtain ⟨f, hf1, hf2⟩ := calm wr
        have HF1 := chid hf1
        have HF2 := chid hf2
        have r0' : ∀ n, (f n).cell? ⟨w.heap.size, 0, none⟩ = some (.int .i64 wn) := fun n => ((hf1 n).cell (p := ⟨w.heap.size, 0, none⟩) rl).trans r0
        have r1' : ∀ n, (f n).cell? ⟨w.heap.size, 1, none⟩ = some (.int .i64 cn) := fun n => ((hf1 n).cell (p := ⟨w.heap.size, 1, none⟩) rl).trans r1
        have r2' : ∀ n, (f n).cell? ⟨w.heap.size, 2, none⟩ = some (.int .i64 ln) := fun n => ((hf1 n).cell (p := ⟨w.heap.size, 2, none⟩) rl).trans r2
        have p0' : ∀ n, (f n).cell? ⟨b, off + (i) * 4, none⟩ = some (.int .i64 t1.op) := fun n => ((hf1 n).cell (p := ⟨b, off + (i) * 4, none⟩) bl).trans p0
        have p1' : ∀ n, (f n).cell? ⟨b, off + (i) * 4 + 1, none⟩ = some (.int .i64 t1.n) := fun n => ((hf1 n).cell (p := ⟨b, off + (i) * 4 + 1, none⟩) bl).trans p1
        have p2' : ∀ n, (f n).cell? ⟨b, off + (i) * 4 + 2, none⟩ = some (.int .i64 t1.m) := fun n => ((hf1 n).cell (p := ⟨b, off + (i) * 4 + 2, none⟩) bl).trans p2
        have p3' : ∀ n, (f n).cell? ⟨b, off + (i) * 4 + 3, none⟩ = some (.slice ad1 t1.parts.length cap1) := fun n => ((hf1 n).cell (p := ⟨b, off + (i) * 4 + 3, none⟩) bl).trans p3
        have k0' : ∀ n, (f n).cell? ⟨b, off + (i + 1) * 4, none⟩ = some (.int .i64 t2.op) := fun n => ((hf1 n).cell (p := ⟨b, off + (i + 1) * 4, none⟩) bl).trans k0
        have k1' : ∀ n, (f n).cell? ⟨b, off + (i + 1) * 4 + 1, none⟩ = some (.int .i64 t2.n) := fun n => ((hf1 n).cell (p := ⟨b, off + (i + 1) * 4 + 1, none⟩) bl).trans k1
        have k2' : ∀ n, (f n).cell? ⟨b, off + (i + 1) * 4 + 2, none⟩ = some (.int .i64 t2.m) := fun n => ((hf1 n).cell (p := ⟨b, off + (i + 1) * 4 + 2, none⟩) bl).trans k2
        have k3' : ∀ n, (f n).cell? ⟨b, off + (i + 1) * 4 + 3, none⟩ = some (.slice ad2 t2.parts.length cap2) := fun n => ((hf1 n).cell (p := ⟨b, off + (i + 1) * 4 + 3, none⟩) bl).trans k3
        have z1' : ∀ n, (f n).cell? ⟨b, off + r * 4 + 1, none⟩ = some (.int .i64 x3) := fun n => ((hf1 n).cell (p := ⟨b, off + r * 4 + 1, none⟩) bl).trans z1
        clear hf1 hf2 r0 r1 r2 p0 p1 p2 p3 k0 k1 k2 k3 z1
        refine wp_region_calm f (by kernel_rfl) (by kernel_rfl) (HF2.out _ (Below.refl _ _).drew) ?_
        repeat (go_big_quiet_step (first | (go_at_call 30; with_reducible refine Calls.mono (HC1.out _ (cbelow_on HBw.out (HF1.out _) HBw.out.size)) ?_; rintro e W1 ⟨rfl, b5⟩; exact ⟨rfl, HF2.out _ (cbelow_on (HF1.out _) b5 (HF1.out _).size)⟩) | (go_at_call 30; with_reducible refine Calls.mono (HC2.out _ (cbelow_on HBw.out (HF1.out _) HBw.out.size)) ?_; rintro e W1 ⟨rfl, b5⟩; exact ⟨rfl, HF2.out _ (cbelow_on (HF1.out _) b5 (HF1.out _).size)⟩)))
        refine wpQuiet_nil ?_
        intro w5 hw5
        obtain ⟨n5, rfl⟩ := hw5
        have HV := chid (HF1.out n5)
        clear HF1 HF2 r0' r1' r2' p0' p1' p2' p3' k0' k1' k2' k3' z1'
        generalize f n5 = w5 at *
        have HB5 := chid (cbelow_on HBw.out HV.out HBw.out.size)
        go_wp2_with fail
        go_ret
        exact ⟨rfl, HB5.out⟩
      subst q5
      have HQ2 : Hid (∀ q, q % 2 = 1 → q < i + 2 → dstep c ss q) := fun q h1 h2 => by
        by_cases e : q = i
        · rw [e]; exact ⟨by rw [Ho1.out]; exact Hq1.out, Hs1.out.symm, fun _ => by rw [Ho1.out, show i - 2 = r by have := hr.out; omega, Hx3.out]; exact q6, Hs2.out.symm⟩
        · exact HQ.out q h1 (by have := HO.out; omega)
      go_wp2_with fail
      obtain ⟨f, hf1, hf2⟩ := calm wr
      have HF1 := chid hf1
      have HF2 := chid hf2
      have r0' : ∀ n, (f n).cell? ⟨w.heap.size, 0, none⟩ = some (.int .i64 wn) := fun n => ((hf1 n).cell (p := ⟨w.heap.size, 0, none⟩) rl).trans r0
      have r1' : ∀ n, (f n).cell? ⟨w.heap.size, 1, none⟩ = some (.int .i64 cn) := fun n => ((hf1 n).cell (p := ⟨w.heap.size, 1, none⟩) rl).trans r1
      have r2' : ∀ n, (f n).cell? ⟨w.heap.size, 2, none⟩ = some (.int .i64 ln) := fun n => ((hf1 n).cell (p := ⟨w.heap.size, 2, none⟩) rl).trans r2
      have p0' : ∀ n, (f n).cell? ⟨b, off + (i) * 4, none⟩ = some (.int .i64 t1.op) := fun n => ((hf1 n).cell (p := ⟨b, off + (i) * 4, none⟩) bl).trans p0
      have p1' : ∀ n, (f n).cell? ⟨b, off + (i) * 4 + 1, none⟩ = some (.int .i64 t1.n) := fun n => ((hf1 n).cell (p := ⟨b, off + (i) * 4 + 1, none⟩) bl).trans p1
      have p2' : ∀ n, (f n).cell? ⟨b, off + (i) * 4 + 2, none⟩ = some (.int .i64 t1.m) := fun n => ((hf1 n).cell (p := ⟨b, off + (i) * 4 + 2, none⟩) bl).trans p2
      have p3' : ∀ n, (f n).cell? ⟨b, off + (i) * 4 + 3, none⟩ = some (.slice ad1 t1.parts.length cap1) := fun n => ((hf1 n).cell (p := ⟨b, off + (i) * 4 + 3, none⟩) bl).trans p3
      have k0' : ∀ n, (f n).cell? ⟨b, off + (i + 1) * 4, none⟩ = some (.int .i64 t2.op) := fun n => ((hf1 n).cell (p := ⟨b, off + (i + 1) * 4, none⟩) bl).trans k0
      have k1' : ∀ n, (f n).cell? ⟨b, off + (i + 1) * 4 + 1, none⟩ = some (.int .i64 t2.n) := fun n => ((hf1 n).cell (p := ⟨b, off + (i + 1) * 4 + 1, none⟩) bl).trans k1
      have k2' : ∀ n, (f n).cell? ⟨b, off + (i + 1) * 4 + 2, none⟩ = some (.int .i64 t2.m) := fun n => ((hf1 n).cell (p := ⟨b, off + (i + 1) * 4 + 2, none⟩) bl).trans k2
      have k3' : ∀ n, (f n).cell? ⟨b, off + (i + 1) * 4 + 3, none⟩ = some (.slice ad2 t2.parts.length cap2) := fun n => ((hf1 n).cell (p := ⟨b, off + (i + 1) * 4 + 3, none⟩) bl).trans k3
      have z1' : ∀ n, (f n).cell? ⟨b, off + r * 4 + 1, none⟩ = some (.int .i64 x3) := fun n => ((hf1 n).cell (p := ⟨b, off + r * 4 + 1, none⟩) bl).trans z1
      clear hf1 hf2 r0 r1 r2 p0 p1 p2 p3 k0 k1 k2 k3 z1
      refine wp_region_calm f (by kernel_rfl) (by kernel_rfl) (HF2.out _ (Below.refl _ _).drew) ?_
      repeat (go_big_quiet_step (first | (go_at_call 30; with_reducible refine Calls.mono (HC1.out _ (cbelow_on HBw.out (HF1.out _) HBw.out.size)) ?_; rintro e W1 ⟨rfl, b5⟩; exact ⟨rfl, HF2.out _ (cbelow_on (HF1.out _) b5 (HF1.out _).size)⟩) | (go_at_call 30; with_reducible refine Calls.mono (HC2.out _ (cbelow_on HBw.out (HF1.out _) HBw.out.size)) ?_; rintro e W1 ⟨rfl, b5⟩; exact ⟨rfl, HF2.out _ (cbelow_on (HF1.out _) b5 (HF1.out _).size)⟩)))
      refine wpQuiet_nil ?_
      intro w5 hw5
      obtain ⟨n5, rfl⟩ := hw5
      have HV := chid (HF1.out n5)
      clear HF1 HF2 r0' r1' r2' p0' p1' p2' p3' k0' k1' k2' k3' z1'
      generalize f n5 = w5 at *
      have HB5 := chid (cbelow_on HBw.out HV.out HBw.out.size)
      clear HC1 HC2 hsub hr2 hr3 q4b q6 q7 q8
      refine (‹∀ (a : Act) (w : World), _ → _› _ _ ?_)
      go_wp
      refine ⟨?_, ?_⟩
      · repeat apply Exists.intro
        refine ⟨?_, rfl⟩
        exact ⟨i + 2, by go_num, by have := HO.out; omega, chid (by have := HO.out; omega), HQ2.out, chid (cbelow_on HW.out HV.out HW.out.size)⟩
      · simp; omega
    · have hlt' : ¬ (i : Int) < (M : Int) := by omega
      have hl1 : M < c.parts.length := by have := hN.out; omega
      obtain ⟨u1, f1, v1⟩ := HXw.out M hl1
      have HC1 := chid (fun W (hW : Below w.heap.size w W) => HI.out _ (List.getElem_mem hl1) u1 W (v1.next hW))
      obtain ⟨ad1, cap1, rfl, -, -⟩ := v1.parts.shape
      obtain ⟨p0, p1, p2, p3⟩ := f1.keep (w' := wr) (fun q => HBw.out.cell (p := ⟨b, q, none⟩) hbl)
      obtain ⟨s1, hs1⟩ : ∃ s1, Hid (s1 = csort ladF wn cn ln c.parts[M]) := ⟨_, chid rfl⟩
      rw [← hs1.out] at HC1
      have Hs1 : Hid (s1 = ss.getD (ss.length - 1) 0) := by show _ = _; rw [hsl.out, hs1.out, hss.out, show M + 1 - 1 = M from rfl, getD_map c.parts hl1]; congr 1; simp [List.getD, List.getElem?_eq_getElem hl1]
      generalize c.parts[M] = t1 at *
      have HA4 := chid a4
      have HA3 := chid a3
      have hi3 : M < M + 1 := by omega
      have hc3 : (M : Int) + 1 ≤ 8192 := by omega
      clear f1 v1 hs1 hlt a4 a3
      by_cases q2 : s1 = 3
      · have hT : R = true := HR.out.2 ⟨by have := hsl.out; omega, by rw [hsl.out]; exact HA3.out, HA4.out, fun q h1 h2 => HQ.out q h1 (by have := hsl.out; have := HO.out; omega), by rw [← Hs1.out]; exact q2⟩
        subst hT
        subst q2
        go_wp2_with fail
        obtain ⟨f, hf1, hf2⟩ := calm wr
        have HF1 := chid hf1
        have HF2 := chid hf2
        have r0' : ∀ n, (f n).cell? ⟨w.heap.size, 0, none⟩ = some (.int .i64 wn) := fun n => ((hf1 n).cell (p := ⟨w.heap.size, 0, none⟩) rl).trans r0
        have r1' : ∀ n, (f n).cell? ⟨w.heap.size, 1, none⟩ = some (.int .i64 cn) := fun n => ((hf1 n).cell (p := ⟨w.heap.size, 1, none⟩) rl).trans r1
        have r2' : ∀ n, (f n).cell? ⟨w.heap.size, 2, none⟩ = some (.int .i64 ln) := fun n => ((hf1 n).cell (p := ⟨w.heap.size, 2, none⟩) rl).trans r2
        have p0' : ∀ n, (f n).cell? ⟨b, off + (M) * 4, none⟩ = some (.int .i64 t1.op) := fun n => ((hf1 n).cell (p := ⟨b, off + (M) * 4, none⟩) bl).trans p0
        have p1' : ∀ n, (f n).cell? ⟨b, off + (M) * 4 + 1, none⟩ = some (.int .i64 t1.n) := fun n => ((hf1 n).cell (p := ⟨b, off + (M) * 4 + 1, none⟩) bl).trans p1
        have p2' : ∀ n, (f n).cell? ⟨b, off + (M) * 4 + 2, none⟩ = some (.int .i64 t1.m) := fun n => ((hf1 n).cell (p := ⟨b, off + (M) * 4 + 2, none⟩) bl).trans p2
        have p3' : ∀ n, (f n).cell? ⟨b, off + (M) * 4 + 3, none⟩ = some (.slice ad1 t1.parts.length cap1) := fun n => ((hf1 n).cell (p := ⟨b, off + (M) * 4 + 3, none⟩) bl).trans p3
        clear hf1 hf2 r0 r1 r2 p0 p1 p2 p3
        refine wp_region_calm f (by kernel_rfl) (by kernel_rfl) (HF2.out _ (Below.refl _ _).drew) ?_
        repeat (go_big_quiet_step (first | (go_at_call 30; with_reducible refine Calls.mono (HC1.out _ (cbelow_on HBw.out (HF1.out _) HBw.out.size)) ?_; rintro e W1 ⟨rfl, b5⟩; exact ⟨rfl, HF2.out _ (cbelow_on (HF1.out _) b5 (HF1.out _).size)⟩)))
        refine wpQuiet_nil ?_
        intro w5 hw5
        obtain ⟨n5, rfl⟩ := hw5
        have HV := chid (HF1.out n5)
        clear HF1 HF2 r0' r1' r2' p0' p1' p2' p3'
        generalize f n5 = w5 at *
        have HB5 := chid (cbelow_on HBw.out HV.out HBw.out.size)
        go_wp2_with fail
        go_ret
        exact ⟨rfl, HB5.out⟩
      · have hT : R = false := bfalse HR.out (fun h => q2 (by rw [Hs1.out]; exact h.2.2.2.2))
        subst hT
        have d5 : (s1 == 3) = false := by simpa using q2
        go_wp2_with fail
        obtain ⟨f, hf1, hf2⟩ := calm wr
        have HF1 := chid hf1
        have HF2 := chid hf2
        have r0' : ∀ n, (f n).cell? ⟨w.heap.size, 0, none⟩ = some (.int .i64 wn) := fun n => ((hf1 n).cell (p := ⟨w.heap.size, 0, none⟩) rl).trans r0
        have r1' : ∀ n, (f n).cell? ⟨w.heap.size, 1, none⟩ = some (.int .i64 cn) := fun n => ((hf1 n).cell (p := ⟨w.heap.size, 1, none⟩) rl).trans r1
        have r2' : ∀ n, (f n).cell? ⟨w.heap.size, 2, none⟩ = some (.int .i64 ln) := fun n => ((hf1 n).cell (p := ⟨w.heap.size, 2, none⟩) rl).trans r2
        have p0' : ∀ n, (f n).cell? ⟨b, off + (M) * 4, none⟩ = some (.int .i64 t1.op) := fun n => ((hf1 n).cell (p := ⟨b, off + (M) * 4, none⟩) bl).trans p0
        have p1' : ∀ n, (f n).cell? ⟨b, off + (M) * 4 + 1, none⟩ = some (.int .i64 t1.n) := fun n => ((hf1 n).cell (p := ⟨b, off + (M) * 4 + 1, none⟩) bl).trans p1
        have p2' : ∀ n, (f n).cell? ⟨b, off + (M) * 4 + 2, none⟩ = some (.int .i64 t1.m) := fun n => ((hf1 n).cell (p := ⟨b, off + (M) * 4 + 2, none⟩) bl).trans p2
        have p3' : ∀ n, (f n).cell? ⟨b, off + (M) * 4 + 3, none⟩ = some (.slice ad1 t1.parts.length cap1) := fun n => ((hf1 n).cell (p := ⟨b, off + (M) * 4 + 3, none⟩) bl).trans p3
        clear hf1 hf2 r0 r1 r2 p0 p1 p2 p3
        refine wp_region_calm f (by kernel_rfl) (by kernel_rfl) (HF2.out _ (Below.refl _ _).drew) ?_
        repeat (go_big_quiet_step (first | (go_at_call 30; with_reducible refine Calls.mono (HC1.out _ (cbelow_on HBw.out (HF1.out _) HBw.out.size)) ?_; rintro e W1 ⟨rfl, b5⟩; exact ⟨rfl, HF2.out _ (cbelow_on (HF1.out _) b5 (HF1.out _).size)⟩)))
        refine wpQuiet_nil ?_
        intro w5 hw5
        obtain ⟨n5, rfl⟩ := hw5
        have HV := chid (HF1.out n5)
        clear HF1 HF2 r0' r1' r2' p0' p1' p2' p3'
        generalize f n5 = w5 at *
        have HB5 := chid (cbelow_on HBw.out HV.out HBw.out.size)
        go_wp2_with fail
        go_ret
        exact ⟨rfl, HB5.out⟩
end Go.Proofs.YtaombbbblgfgdaaGreatDoor

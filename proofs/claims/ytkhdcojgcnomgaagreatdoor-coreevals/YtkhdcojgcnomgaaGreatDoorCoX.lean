/- Package core: the works that ask parts and reckon. -/
import Derived.Test.YtkhdcojgcnomgaaGreatDoorCoW
import Derived.Test.YtkhdcojgcnomgaaGreatDoorCoO
namespace Go.Proofs.YtkhdcojgcnomgaaGreatDoor
open Go.RowKit

set_option maxHeartbeats 1000000 in
theorem wk_either (E : EnvP) (tn tm : Int) (x0 x1 : Co) (H0 : TeC E x0) (H1 : TeC E x1) : WkC E 27 ⟨27, tn, tm, [x0, x1]⟩ := by
  intro v tb b w f q hs ht hw
  cases hw
  obtain ⟨Rv, hRv⟩ : ∃ Rv, Hid (Rv = resV (telV E ⟨27, tn, tm, [x0, x1]⟩)) := ⟨_, rfl⟩
  rw [← hRv.out]
  rw [telV_eq] at hRv
  obtain ⟨pb, off, cap, u0, u1, rfl, k1, k2, lp, f0, s0, f1, s1⟩ := parts2 hs.parts
  obtain ⟨a0, n0, rfl, -, -⟩ := s0.parts.shape
  have HC0 := chid (fun W (hW : Below w.heap.size w W) => H0 _ tb b W (s0.next hW) (ht.next hW))
  obtain ⟨a1, n1, rfl, -, -⟩ := s1.parts.shape
  have HC1 := chid (fun W (hW : Below w.heap.size w W) => H1 _ tb b W (s1.next hW) (ht.next hW))
  have HA : Hid (∀ o, Below w.heap.size w (w.alloc o)) := fun o => (Below.refl _ _).alloc (Nat.le_refl _) _
  have HF0 := chid f0
  have HF1 := chid f1
  obtain ⟨p0, p1, p2, p3⟩ := f0
  have HX := chid (Box.new w (coL ⟨27, tn, tm, [x0, x1]⟩ (.slice (some ⟨pb, off, none⟩) 2 cap)) 24)
  have HG := chid ht.gl
  clear hs ht s0 s1
  have hT : Hid (Rv = resV (if (telV E x0).2 = 0 then (telV E x0) else (telV E x1))) := hRv
  clear hRv
  generalize telV E x0 = r0 at *
  generalize telV E x1 = r1 at *
  obtain ⟨n0', e0⟩ := r0
  dsimp only at hT
  have HR : Hid (∀ W, Below w.heap.size w W → Calls Tryz.prog 127 #[errV e0] W fun e w' => e = .returned (.int .i64 e0) ∧ Below W.heap.size W w') := fun W hW => reasonOf_c e0 W (GlE.next HG.out hW)
  by_cases he : e0 = 0
  case neg =>
    have hR : Hid (Rv = resV r1) := by show _ = _; rw [hT.out, if_neg he]
    rw [errV_n he] at HR
    have kz : (e0 != 0) = true := by simpa using he
    go_enter Tryz.func104, Tryz.ntmps104
    go_wp2_with fail
    refine Calls.mono (HC0.out _ (HA.out _)) ?_
    rintro e w1 ⟨he1, b1⟩
    rw [resV_err n0' he] at he1
    subst he1
    have HB := chid (cbelow_on (HA.out _) b1 (by simp))
    have X1 := HX.out.next b1
    have c0 := X1.cell 0 _ rfl
    have c1 := X1.cell 1 _ rfl
    have c2 := X1.cell 2 _ rfl
    have c3 := X1.cell 3 _ rfl
    have x1l := X1.lt
    clear b1 HC0 HX X1 p0 p1 p2 p3
    clear hT
    go_wp2_with fail
    refine Calls.mono (HR.out _ HB.out) ?_
    rintro e w3 ⟨rfl, b3⟩
    have HB3 := chid (cbelow_on HB.out b3 HB.out.size)
    replace c3 := (b3.cell (p := ⟨w.heap.size, 3, none⟩) x1l).trans c3
    have x3l := Nat.lt_of_lt_of_le x1l b3.size
    clear b3 c0 c1 c2 HR
    obtain ⟨p0, p1, p2, p3⟩ := HF1.out.keep (w' := w3) (fun j => HB3.out.cell (p := ⟨pb, j, none⟩) lp)
    have lp1 := Nat.lt_of_lt_of_le lp HB3.out.size
    go_wp2_with fail
    refine Calls.mono (HC1.out _ HB3.out) ?_
    rintro e w2 ⟨rfl, b2⟩
    have HB2 := chid (cbelow_on HB3.out b2 HB3.out.size)
    clear b2 p0 p1 p2 p3
    go_wp2_with fail
    go_ret2
    exact ⟨by rw [hR.out]; rfl, HB2.out⟩
  subst he
  have hR : Hid (Rv = Value.tuple #[.int .i64 n0', .nilIface]) := by show _ = _; rw [hT.out, if_pos rfl]; exact resV_ok _ rfl
  rw [errV_0] at HR
  go_enter Tryz.func104, Tryz.ntmps104
  go_wp2_with fail
  refine Calls.mono (HC0.out _ (HA.out _)) ?_
  rintro e w1 ⟨he1, b1⟩
  rw [resV_ok (n0', 0) rfl] at he1
  subst he1
  have HB := chid (cbelow_on (HA.out _) b1 (by simp))
  have X1 := HX.out.next b1
  have c0 := X1.cell 0 _ rfl
  have c1 := X1.cell 1 _ rfl
  have c2 := X1.cell 2 _ rfl
  have c3 := X1.cell 3 _ rfl
  have x1l := X1.lt
  clear b1 HC0 HX X1 p0 p1 p2 p3
  clear hT
  go_wp2_with fail
  refine Calls.mono (HR.out _ HB.out) ?_
  rintro e w3 ⟨rfl, b3⟩
  have HB3 := chid (cbelow_on HB.out b3 HB.out.size)
  clear b3 c0 c1 c2 c3 HR
  go_wp2_with fail
  go_ret2
  exact ⟨by rw [hR.out]; rfl, HB3.out⟩
set_option maxHeartbeats 1000000 in
theorem wk_scale (E : EnvP) (tn tm : Int) (x0 : Co) (H0 : TeC E x0) (HS : ∀ W : World, Calls Tryz.prog 152 #[.int .i64 (telV E x0).1, .int .i64 tn, .int .i64 tm] W fun e w' => e = .returned (.int .i64 (held ((telV E x0).1 * tn / tm))) ∧ Below W.heap.size W w') : WkC E 13 ⟨13, tn, tm, [x0]⟩ := by
  intro v tb b w f q hs ht hw
  cases hw
  obtain ⟨Rv, hRv⟩ : ∃ Rv, Hid (Rv = resV (telV E ⟨13, tn, tm, [x0]⟩)) := ⟨_, rfl⟩
  rw [← hRv.out]
  rw [telV_eq] at hRv
  obtain ⟨pb, off, cap, u0, rfl, k1, k2, lp, f0, s0⟩ := parts1 hs.parts
  obtain ⟨a0, n0, rfl, -, -⟩ := s0.parts.shape
  have HC0 := chid (fun W (hW : Below w.heap.size w W) => H0 _ tb b W (s0.next hW) (ht.next hW))
  have HA : Hid (∀ o, Below w.heap.size w (w.alloc o)) := fun o => (Below.refl _ _).alloc (Nat.le_refl _) _
  have HF0 := chid f0
  obtain ⟨p0, p1, p2, p3⟩ := f0
  have HX := chid (Box.new w (coL ⟨13, tn, tm, [x0]⟩ (.slice (some ⟨pb, off, none⟩) 1 cap)) 24)
  clear hs ht s0
  have hT : Hid (Rv = resV (ofOneR (fun a => held (a * tn / tm)) (telV E x0))) := hRv
  clear hRv
  generalize telV E x0 = r0 at *
  obtain ⟨n0', e0⟩ := r0
  dsimp only at hT HS
  have HSs := chid HS
  clear HS
  by_cases he : e0 = 0
  case neg =>
    have hR : Hid (Rv = Value.tuple #[.int .i64 0, .iface 150 (.agg #[.int .i64 e0])]) := by show _ = _; rw [hT.out]; unfold ofOneR; rw [if_neg he]; exact resV_err _ he
    go_enter Tryz.func88, Tryz.ntmps88
    go_wp2_with fail
    refine Calls.mono (HC0.out _ (HA.out _)) ?_
    rintro e w1 ⟨he1, b1⟩
    rw [resV_err n0' he] at he1
    subst he1
    have HB := chid (cbelow_on (HA.out _) b1 (by simp))
    have X1 := HX.out.next b1
    have c0 := X1.cell 0 _ rfl
    have c1 := X1.cell 1 _ rfl
    have c2 := X1.cell 2 _ rfl
    have c3 := X1.cell 3 _ rfl
    have x1l := X1.lt
    clear b1 HC0 HX X1 p0 p1 p2 p3
    clear hT
    go_wp2_with fail
    go_ret2
    exact ⟨by rw [hR.out]; rfl, HB.out⟩
  subst he
  have hR : Hid (Rv = Value.tuple #[.int .i64 (held (n0' * tn / tm)), .nilIface]) := by show _ = _; rw [hT.out]; unfold ofOneR; rw [if_pos rfl]; exact resV_ok _ rfl
  go_enter Tryz.func88, Tryz.ntmps88
  go_wp2_with fail
  refine Calls.mono (HC0.out _ (HA.out _)) ?_
  rintro e w1 ⟨he1, b1⟩
  rw [resV_ok (n0', 0) rfl] at he1
  subst he1
  have HB := chid (cbelow_on (HA.out _) b1 (by simp))
  have X1 := HX.out.next b1
  have c0 := X1.cell 0 _ rfl
  have c1 := X1.cell 1 _ rfl
  have c2 := X1.cell 2 _ rfl
  have c3 := X1.cell 3 _ rfl
  have x1l := X1.lt
  clear b1 HC0 HX X1 p0 p1 p2 p3
  clear hT
  go_wp2_with fail
  refine Calls.mono (HSs.out _) ?_
  rintro e w3 ⟨rfl, b3⟩
  have HB3 := chid (cbelow_on HB.out b3 HB.out.size)
  clear b3 c0 c1 c2 c3 HSs
  go_wp2_with fail
  go_ret2
  exact ⟨by rw [hR.out]; rfl, HB3.out⟩
set_option maxHeartbeats 1000000 in
theorem wk_to (E : EnvP) (tn tm : Int) (x0 : Co) (H0 : TeC E x0) (HS : ∀ W : World, Calls Tryz.prog 162 #[.int .i64 (telV E x0).1] W fun e w' => e = .returned (.int .i64 (countF (telV E x0).1)) ∧ Below W.heap.size W w') : WkC E 30 ⟨30, tn, tm, [x0]⟩ := by
  intro v tb b w f q hs ht hw
  cases hw
  obtain ⟨Rv, hRv⟩ : ∃ Rv, Hid (Rv = resV (telV E ⟨30, tn, tm, [x0]⟩)) := ⟨_, rfl⟩
  rw [← hRv.out]
  rw [telV_eq] at hRv
  obtain ⟨pb, off, cap, u0, rfl, k1, k2, lp, f0, s0⟩ := parts1 hs.parts
  obtain ⟨a0, n0, rfl, -, -⟩ := s0.parts.shape
  have HC0 := chid (fun W (hW : Below w.heap.size w W) => H0 _ tb b W (s0.next hW) (ht.next hW))
  have HA : Hid (∀ o, Below w.heap.size w (w.alloc o)) := fun o => (Below.refl _ _).alloc (Nat.le_refl _) _
  have HF0 := chid f0
  obtain ⟨p0, p1, p2, p3⟩ := f0
  have HX := chid (Box.new w (coL ⟨30, tn, tm, [x0]⟩ (.slice (some ⟨pb, off, none⟩) 1 cap)) 24)
  clear hs ht s0
  have hT : Hid (Rv = resV (ofOneR countF (telV E x0))) := hRv
  clear hRv
  generalize telV E x0 = r0 at *
  obtain ⟨n0', e0⟩ := r0
  dsimp only at hT HS
  have HSs := chid HS
  clear HS
  by_cases he : e0 = 0
  case neg =>
    have hR : Hid (Rv = Value.tuple #[.int .i64 0, .iface 150 (.agg #[.int .i64 e0])]) := by show _ = _; rw [hT.out]; unfold ofOneR; rw [if_neg he]; exact resV_err _ he
    go_enter Tryz.func108, Tryz.ntmps108
    go_wp2_with fail
    refine Calls.mono (HC0.out _ (HA.out _)) ?_
    rintro e w1 ⟨he1, b1⟩
    rw [resV_err n0' he] at he1
    subst he1
    have HB := chid (cbelow_on (HA.out _) b1 (by simp))
    have X1 := HX.out.next b1
    have c0 := X1.cell 0 _ rfl
    have c1 := X1.cell 1 _ rfl
    have c2 := X1.cell 2 _ rfl
    have c3 := X1.cell 3 _ rfl
    have x1l := X1.lt
    clear b1 HC0 HX X1 p0 p1 p2 p3
    clear hT
    go_wp2_with fail
    go_ret2
    exact ⟨by rw [hR.out]; rfl, HB.out⟩
  subst he
  have hR : Hid (Rv = Value.tuple #[.int .i64 (countF n0'), .nilIface]) := by show _ = _; rw [hT.out]; unfold ofOneR; rw [if_pos rfl]; exact resV_ok _ rfl
  go_enter Tryz.func108, Tryz.ntmps108
  go_wp2_with fail
  refine Calls.mono (HC0.out _ (HA.out _)) ?_
  rintro e w1 ⟨he1, b1⟩
  rw [resV_ok (n0', 0) rfl] at he1
  subst he1
  have HB := chid (cbelow_on (HA.out _) b1 (by simp))
  have X1 := HX.out.next b1
  have c0 := X1.cell 0 _ rfl
  have c1 := X1.cell 1 _ rfl
  have c2 := X1.cell 2 _ rfl
  have c3 := X1.cell 3 _ rfl
  have x1l := X1.lt
  clear b1 HC0 HX X1 p0 p1 p2 p3
  clear hT
  go_wp2_with fail
  refine Calls.mono (HSs.out _) ?_
  rintro e w3 ⟨rfl, b3⟩
  have HB3 := chid (cbelow_on HB.out b3 HB.out.size)
  clear b3 c0 c1 c2 c3 HSs
  go_wp2_with fail
  go_ret2
  exact ⟨by rw [hR.out]; rfl, HB3.out⟩
end Go.Proofs.YtkhdcojgcnomgaaGreatDoor

/- The document's Arity, and what it asks of N and M. -/
import Derived.Test.YtkhdcojgcnomgaaGreatDoorCoD
namespace Go.Proofs.YtkhdcojgcnomgaaGreatDoor
open Go.RowKit

def arT : List Int := [-2, 0, 0, 0, 0, 0, 0, 1, 1, 1, 1, 1, 1, 1, 2, 2, 2, 2, 2, 2, 2, 2, 2, 2, 2, 2, 2, 2, 3, 0, 1, 1, -1]
set_option maxHeartbeats 2000000 in
theorem arity_in : ∀ k, 1 ≤ k → k ≤ 32 → ∀ w : World, Calls Tryz.prog 35 #[.int .i64 ((k : Nat) : Int)] w fun e w' => e = .returned (.int .i64 (arT.getD k (-2))) ∧ w' = w := by
  apply op_cases (p := fun k => ∀ w : World, Calls Tryz.prog 35 #[.int .i64 ((k : Nat) : Int)] w fun e w' => e = .returned (.int .i64 (arT.getD k (-2))) ∧ w' = w) <;> (intro w; go_enter Tryz.func35, Tryz.ntmps35; go_wp2_with fail; go_ret; exact ⟨rfl, rfl⟩)
theorem arity_out (op : Int) (h : ¬ (1 ≤ op ∧ op ≤ 32)) (w : World) : Calls Tryz.prog 35 #[.int .i64 op] w fun e w' => e = .returned (.int .i64 (-2)) ∧ w' = w := by
  have e28 : (op == 28) = false := by simp; omega
  have e29 : (op == 29) = false := by simp; omega
  have e30 : (op == 30) = false := by simp; omega
  have e31 : (op == 31) = false := by simp; omega
  have e32 : (op == 32) = false := by simp; omega
  by_cases h1 : op < 1
  · have a1 : ¬ 1 ≤ op := by omega
    have a2 : ¬ 7 ≤ op := by omega
    have a3 : ¬ 14 ≤ op := by omega
    clear h
    go_enter Tryz.func35, Tryz.ntmps35
    go_wp2_with fail
    go_ret
    exact ⟨rfl, rfl⟩
  · have a1 : 1 ≤ op := by omega
    have a2 : 7 ≤ op := by omega
    have a3 : 14 ≤ op := by omega
    have b1 : ¬ op ≤ 6 := by omega
    have b2 : ¬ op ≤ 13 := by omega
    have b3 : ¬ op ≤ 27 := by omega
    clear h
    go_enter Tryz.func35, Tryz.ntmps35
    go_wp2_with fail
    go_ret
    exact ⟨rfl, rfl⟩
set_option maxHeartbeats 4000000 in
theorem rfields_c (k : Nat) (wn cn ln : Int) (h64 : C64 wn ∧ C64 cn ∧ C64 ln) (c : Co) (hc : c.op = ((k : Nat) : Int)) (hf : CFit c) (ad : Option Addr) (n cap : Nat) (w : World) : Calls Tryz.prog 36 #[.agg #[.int .i64 wn, .int .i64 cn, .int .i64 ln], coV c (.slice ad n cap)] w fun e w' => e = .returned (.bool (fitsB k wn cn ln c)) ∧ Below w.heap.size w w' := by
  obtain ⟨⟨w1, w2⟩, ⟨c1, c2⟩, l1, l2⟩ := h64
  obtain ⟨⟨o1, o2⟩, ⟨n1, n2⟩, m1, m2⟩ := hf
  have HB : Hid (∀ o o', Below w.heap.size w ((w.alloc o).alloc o')) := fun o o' => ((Below.refl _ _).alloc (Nat.le_refl _) _).alloc (by simp) _
  by_cases hk1 : k = 1
  · have hk := hk1
    have ho : c.op = 1 := by omega
    clear hc
    by_cases q0 : c.m = 0
    case neg =>
      have r0 : (c.m == 0) = false := by simpa using q0
      have hR : Hid (fitsB k wn cn ln c = false) := by show _ = _; subst hk; unfold fitsB; simp <;> omega
      rw [hR.out]
      clear hR
      go_enter Tryz.func36, Tryz.ntmps36
      go_wp2_with fail
      go_ret
      exact ⟨rfl, HB.out _ _⟩
    have hR : Hid (fitsB k wn cn ln c = true) := by show _ = _; subst hk; unfold fitsB; simp <;> omega
    rw [hR.out]
    clear hR
    go_enter Tryz.func36, Tryz.ntmps36
    go_wp2_with fail
    go_ret
    exact ⟨rfl, HB.out _ _⟩
  by_cases hk2 : k = 2
  · have hk := hk2
    have ho : c.op = 2 := by omega
    clear hc
    by_cases q0 : c.n = 0
    case neg =>
      have r0 : (c.n == 0) = false := by simpa using q0
      by_cases q1 : c.n = 1
      case neg =>
        have r1 : (c.n == 1) = false := by simpa using q1
        have hR : Hid (fitsB k wn cn ln c = false) := by show _ = _; subst hk; unfold fitsB; simp [belowB] <;> omega
        rw [hR.out]
        clear hR
        go_enter Tryz.func36, Tryz.ntmps36
        go_wp2_with fail
        go_ret
        exact ⟨rfl, HB.out _ _⟩
      by_cases q2 : c.m = 0
      case neg =>
        have r2 : (c.m == 0) = false := by simpa using q2
        have hR : Hid (fitsB k wn cn ln c = false) := by show _ = _; subst hk; unfold fitsB; simp [belowB] <;> omega
        rw [hR.out]
        clear hR
        go_enter Tryz.func36, Tryz.ntmps36
        go_wp2_with fail
        go_ret
        exact ⟨rfl, HB.out _ _⟩
      have hR : Hid (fitsB k wn cn ln c = true) := by show _ = _; subst hk; unfold fitsB; simp [belowB] <;> omega
      rw [hR.out]
      clear hR
      go_enter Tryz.func36, Tryz.ntmps36
      go_wp2_with fail
      go_ret
      exact ⟨rfl, HB.out _ _⟩
    by_cases q1 : c.m = 0
    case neg =>
      have r1 : (c.m == 0) = false := by simpa using q1
      have hR : Hid (fitsB k wn cn ln c = false) := by show _ = _; subst hk; unfold fitsB; simp [belowB] <;> omega
      rw [hR.out]
      clear hR
      go_enter Tryz.func36, Tryz.ntmps36
      go_wp2_with fail
      go_ret
      exact ⟨rfl, HB.out _ _⟩
    have hR : Hid (fitsB k wn cn ln c = true) := by show _ = _; subst hk; unfold fitsB; simp [belowB] <;> omega
    rw [hR.out]
    clear hR
    go_enter Tryz.func36, Tryz.ntmps36
    go_wp2_with fail
    go_ret
    exact ⟨rfl, HB.out _ _⟩
  by_cases hk4 : k = 4
  · have hk := hk4
    have ho : c.op = 4 := by omega
    clear hc
    by_cases q0 : 0 ≤ c.n
    case neg =>
      have hR : Hid (fitsB k wn cn ln c = false) := by show _ = _; subst hk; unfold fitsB; simp [belowB] <;> omega
      rw [hR.out]
      clear hR
      go_enter Tryz.func36, Tryz.ntmps36
      go_wp2_with fail
      go_ret
      exact ⟨rfl, HB.out _ _⟩
    by_cases q1 : c.n < wn
    case neg =>
      have hR : Hid (fitsB k wn cn ln c = false) := by show _ = _; subst hk; unfold fitsB; simp [belowB] <;> omega
      rw [hR.out]
      clear hR
      go_enter Tryz.func36, Tryz.ntmps36
      go_wp2_with fail
      go_ret
      exact ⟨rfl, HB.out _ _⟩
    by_cases q2 : c.m = 0
    case neg =>
      have r2 : (c.m == 0) = false := by simpa using q2
      have hR : Hid (fitsB k wn cn ln c = false) := by show _ = _; subst hk; unfold fitsB; simp [belowB] <;> omega
      rw [hR.out]
      clear hR
      go_enter Tryz.func36, Tryz.ntmps36
      go_wp2_with fail
      go_ret
      exact ⟨rfl, HB.out _ _⟩
    have hR : Hid (fitsB k wn cn ln c = true) := by show _ = _; subst hk; unfold fitsB; simp [belowB] <;> omega
    rw [hR.out]
    clear hR
    go_enter Tryz.func36, Tryz.ntmps36
    go_wp2_with fail
    go_ret
    exact ⟨rfl, HB.out _ _⟩
  by_cases hk5 : k = 5
  · have hk := hk5
    have ho : c.op = 5 := by omega
    clear hc
    by_cases q0 : 0 ≤ c.n
    case neg =>
      have hR : Hid (fitsB k wn cn ln c = false) := by show _ = _; subst hk; unfold fitsB; simp [belowB] <;> omega
      rw [hR.out]
      clear hR
      go_enter Tryz.func36, Tryz.ntmps36
      go_wp2_with fail
      go_ret
      exact ⟨rfl, HB.out _ _⟩
    by_cases q1 : c.n < cn
    case neg =>
      have hR : Hid (fitsB k wn cn ln c = false) := by show _ = _; subst hk; unfold fitsB; simp [belowB] <;> omega
      rw [hR.out]
      clear hR
      go_enter Tryz.func36, Tryz.ntmps36
      go_wp2_with fail
      go_ret
      exact ⟨rfl, HB.out _ _⟩
    by_cases q2 : c.m = 0
    case neg =>
      have r2 : (c.m == 0) = false := by simpa using q2
      have hR : Hid (fitsB k wn cn ln c = false) := by show _ = _; subst hk; unfold fitsB; simp [belowB] <;> omega
      rw [hR.out]
      clear hR
      go_enter Tryz.func36, Tryz.ntmps36
      go_wp2_with fail
      go_ret
      exact ⟨rfl, HB.out _ _⟩
    have hR : Hid (fitsB k wn cn ln c = true) := by show _ = _; subst hk; unfold fitsB; simp [belowB] <;> omega
    rw [hR.out]
    clear hR
    go_enter Tryz.func36, Tryz.ntmps36
    go_wp2_with fail
    go_ret
    exact ⟨rfl, HB.out _ _⟩
  by_cases hk6 : k = 6
  · have hk := hk6
    have ho : c.op = 6 := by omega
    clear hc
    by_cases q0 : 1 ≤ c.n
    case neg =>
      have hR : Hid (fitsB k wn cn ln c = false) := by show _ = _; subst hk; unfold fitsB; simp <;> omega
      rw [hR.out]
      clear hR
      go_enter Tryz.func36, Tryz.ntmps36
      go_wp2_with fail
      go_ret
      exact ⟨rfl, HB.out _ _⟩
    by_cases q1 : c.n ≤ 3
    case neg =>
      have hR : Hid (fitsB k wn cn ln c = false) := by show _ = _; subst hk; unfold fitsB; simp <;> omega
      rw [hR.out]
      clear hR
      go_enter Tryz.func36, Tryz.ntmps36
      go_wp2_with fail
      go_ret
      exact ⟨rfl, HB.out _ _⟩
    by_cases q2 : c.m = 1
    case neg =>
      have r2 : (c.m == 1) = false := by simpa using q2
      by_cases q3 : c.m = 2
      case neg =>
        have r3 : (c.m == 2) = false := by simpa using q3
        have hR : Hid (fitsB k wn cn ln c = false) := by show _ = _; subst hk; unfold fitsB; simp <;> omega
        rw [hR.out]
        clear hR
        go_enter Tryz.func36, Tryz.ntmps36
        go_wp2_with fail
        go_ret
        exact ⟨rfl, HB.out _ _⟩
      have hR : Hid (fitsB k wn cn ln c = true) := by show _ = _; subst hk; unfold fitsB; simp <;> omega
      rw [hR.out]
      clear hR
      go_enter Tryz.func36, Tryz.ntmps36
      go_wp2_with fail
      go_ret
      exact ⟨rfl, HB.out _ _⟩
    have hR : Hid (fitsB k wn cn ln c = true) := by show _ = _; subst hk; unfold fitsB; simp <;> omega
    rw [hR.out]
    clear hR
    go_enter Tryz.func36, Tryz.ntmps36
    go_wp2_with fail
    go_ret
    exact ⟨rfl, HB.out _ _⟩
  by_cases hk7 : k = 7
  · have hk := hk7
    have ho : c.op = 7 := by omega
    clear hc
    by_cases q0 : 0 ≤ c.n
    case neg =>
      have hR : Hid (fitsB k wn cn ln c = false) := by show _ = _; subst hk; unfold fitsB; simp [belowB] <;> omega
      rw [hR.out]
      clear hR
      go_enter Tryz.func36, Tryz.ntmps36
      go_wp2_with fail
      go_ret
      exact ⟨rfl, HB.out _ _⟩
    by_cases q1 : c.n < ln
    case neg =>
      have hR : Hid (fitsB k wn cn ln c = false) := by show _ = _; subst hk; unfold fitsB; simp [belowB] <;> omega
      rw [hR.out]
      clear hR
      go_enter Tryz.func36, Tryz.ntmps36
      go_wp2_with fail
      go_ret
      exact ⟨rfl, HB.out _ _⟩
    by_cases q2 : c.m = 0
    case neg =>
      have r2 : (c.m == 0) = false := by simpa using q2
      have hR : Hid (fitsB k wn cn ln c = false) := by show _ = _; subst hk; unfold fitsB; simp [belowB] <;> omega
      rw [hR.out]
      clear hR
      go_enter Tryz.func36, Tryz.ntmps36
      go_wp2_with fail
      go_ret
      exact ⟨rfl, HB.out _ _⟩
    have hR : Hid (fitsB k wn cn ln c = true) := by show _ = _; subst hk; unfold fitsB; simp [belowB] <;> omega
    rw [hR.out]
    clear hR
    go_enter Tryz.func36, Tryz.ntmps36
    go_wp2_with fail
    go_ret
    exact ⟨rfl, HB.out _ _⟩
  by_cases hk13 : k = 13
  · have hk := hk13
    have ho : c.op = 13 := by omega
    clear hc
    by_cases q0 : 0 ≤ c.n
    case neg =>
      have hR : Hid (fitsB k wn cn ln c = false) := by show _ = _; subst hk; unfold fitsB; simp <;> omega
      rw [hR.out]
      clear hR
      go_enter Tryz.func36, Tryz.ntmps36
      go_wp2_with fail
      go_ret
      exact ⟨rfl, HB.out _ _⟩
    by_cases q1 : 1 ≤ c.m
    case neg =>
      have hR : Hid (fitsB k wn cn ln c = false) := by show _ = _; subst hk; unfold fitsB; simp <;> omega
      rw [hR.out]
      clear hR
      go_enter Tryz.func36, Tryz.ntmps36
      go_wp2_with fail
      go_ret
      exact ⟨rfl, HB.out _ _⟩
    have hR : Hid (fitsB k wn cn ln c = true) := by show _ = _; subst hk; unfold fitsB; simp <;> omega
    rw [hR.out]
    clear hR
    go_enter Tryz.func36, Tryz.ntmps36
    go_wp2_with fail
    go_ret
    exact ⟨rfl, HB.out _ _⟩
  have ho1 : (c.op == 1) = false := by simp; omega
  have ho2 : (c.op == 2) = false := by simp; omega
  have ho4 : (c.op == 4) = false := by simp; omega
  have ho5 : (c.op == 5) = false := by simp; omega
  have ho6 : (c.op == 6) = false := by simp; omega
  have ho7 : (c.op == 7) = false := by simp; omega
  have ho13 : (c.op == 13) = false := by simp; omega
  clear hc
  have hk0 := And.intro hk1 (And.intro hk2 (And.intro hk4 (And.intro hk5 (And.intro hk6 (And.intro hk7 hk13)))))
  by_cases q0 : c.n = 0
  case neg =>
    have r0 : (c.n == 0) = false := by simpa using q0
    have hR : Hid (fitsB k wn cn ln c = false) := by show _ = _; unfold fitsB; simp [hk0] <;> omega
    rw [hR.out]
    clear hR
    go_enter Tryz.func36, Tryz.ntmps36
    go_wp2_with fail
    go_ret
    exact ⟨rfl, HB.out _ _⟩
  by_cases q1 : c.m = 0
  case neg =>
    have r1 : (c.m == 0) = false := by simpa using q1
    have hR : Hid (fitsB k wn cn ln c = false) := by show _ = _; unfold fitsB; simp [hk0] <;> omega
    rw [hR.out]
    clear hR
    go_enter Tryz.func36, Tryz.ntmps36
    go_wp2_with fail
    go_ret
    exact ⟨rfl, HB.out _ _⟩
  have hR : Hid (fitsB k wn cn ln c = true) := by show _ = _; unfold fitsB; simp [hk0] <;> omega
  rw [hR.out]
  clear hR
  go_enter Tryz.func36, Tryz.ntmps36
  go_wp2_with fail
  go_ret
  exact ⟨rfl, HB.out _ _⟩
end Go.Proofs.YtkhdcojgcnomgaaGreatDoor

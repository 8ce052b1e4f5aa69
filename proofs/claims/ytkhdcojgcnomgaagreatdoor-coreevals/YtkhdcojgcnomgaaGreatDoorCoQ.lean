/- Package core: the works that ask parts. -/
import Derived.Test.YtkhdcojgcnomgaaGreatDoorCoN
namespace Go.Proofs.YtkhdcojgcnomgaaGreatDoor
open Go.RowKit

theorem parts1 {w : World} {v : Value} {x0 : Co} (h : CAt w v [x0]) : ∃ pb off cap u0, v = .slice (some ⟨pb, off, none⟩) 1 cap ∧ 1 ≤ cap ∧ cap ≤ 9223372036854775807 ∧ pb < w.heap.size ∧ Four w pb off x0 u0 ∧ CSits w x0 u0 := by
  obtain ⟨pb, off, cap, e, h1, h2, h3, hx⟩ := h.open (by simp)
  obtain ⟨u0, f0, s0⟩ := hx 0 (by simp)
  exact ⟨pb, off, cap, u0, e, h1, h2, h3, by simpa using f0, s0⟩
theorem parts2 {w : World} {v : Value} {x0 x1 : Co} (h : CAt w v [x0, x1]) : ∃ pb off cap u0 u1, v = .slice (some ⟨pb, off, none⟩) 2 cap ∧ 2 ≤ cap ∧ cap ≤ 9223372036854775807 ∧ pb < w.heap.size ∧ Four w pb off x0 u0 ∧ CSits w x0 u0 ∧ Four w pb (off + 4) x1 u1 ∧ CSits w x1 u1 := by
  obtain ⟨pb, off, cap, e, h1, h2, h3, hx⟩ := h.open (by simp)
  obtain ⟨u0, f0, s0⟩ := hx 0 (by simp)
  obtain ⟨u1, f1, s1⟩ := hx 1 (by simp)
  exact ⟨pb, off, cap, u0, u1, e, h1, h2, h3, by simpa using f0, s0, by simpa using f1, s1⟩
theorem parts3 {w : World} {v : Value} {x0 x1 x2 : Co} (h : CAt w v [x0, x1, x2]) : ∃ pb off cap u0 u1 u2, v = .slice (some ⟨pb, off, none⟩) 3 cap ∧ 3 ≤ cap ∧ cap ≤ 9223372036854775807 ∧ pb < w.heap.size ∧ Four w pb off x0 u0 ∧ CSits w x0 u0 ∧ Four w pb (off + 4) x1 u1 ∧ CSits w x1 u1 ∧ Four w pb (off + 8) x2 u2 ∧ CSits w x2 u2 := by
  obtain ⟨pb, off, cap, e, h1, h2, h3, hx⟩ := h.open (by simp)
  obtain ⟨u0, f0, s0⟩ := hx 0 (by simp)
  obtain ⟨u1, f1, s1⟩ := hx 1 (by simp)
  obtain ⟨u2, f2, s2⟩ := hx 2 (by simp)
  exact ⟨pb, off, cap, u0, u1, u2, e, h1, h2, h3, by simpa using f0, s0, by simpa using f1, s1, by simpa using f2, s2⟩
set_option maxHeartbeats 1000000 in
theorem wk_memo (E : EnvP) (tn tm : Int) (x0 : Co) (H0 : TeC E x0) : WkC E 7 ⟨7, tn, tm, [x0]⟩ := by
  intro v tb b w f q hs ht hw
  cases hw
  obtain ⟨Rv, hRv⟩ : ∃ Rv, Hid (Rv = resV (telV E ⟨7, tn, tm, [x0]⟩)) := ⟨_, rfl⟩
  rw [← hRv.out]
  have hT : Hid (Rv = resV (telV E x0)) := by rw [telV_eq] at hRv; exact hRv
  obtain ⟨pb, off, cap, u0, rfl, k1, k2, lp, f0, s0⟩ := parts1 hs.parts
  obtain ⟨a0, n0, rfl, -, -⟩ := s0.parts.shape
  have A : ∀ o, Below w.heap.size w (w.alloc o) := fun o => (Below.refl _ _).alloc (Nat.le_refl _) _
  have HC0 := chid (fun W (hW : Below w.heap.size w W) => H0 _ tb b W (s0.next hW) (ht.next hW))
  obtain ⟨p0, p1, p2, p3⟩ := f0
  have HA := chid A
  clear hs ht A s0 hRv
  generalize telV E x0 = r0 at *
  go_enter Tryz.func80, Tryz.ntmps80
  go_wp2_with fail
  refine Calls.mono (HC0.out _ (HA.out _)) ?_
  rintro e w1 ⟨rfl, b1⟩
  have HB := chid (cbelow_on (HA.out _) b1 (by simp))
  clear b1 HC0 HA p0 p1 p2 p3
  go_wp2_with fail
  go_ret2
  exact ⟨by rw [hT.out]; rfl, HB.out⟩
end Go.Proofs.YtkhdcojgcnomgaaGreatDoor

/- The document's answer: Seconds refuses what is no date and time, and years beyond int64. -/
import Derived.Test.YtleffgecobeekaaDoorCivE
namespace Go.Proofs.YtleffgecobeekaaDoor
open Go.RowKit

set_option maxHeartbeats 4000000 in
theorem rSeconds_no (c : Civ) (h : formedB c = false ∨ 292277026596 < c.year ∨ c.year < -292277022657) (w : World) :
    Calls Tryd.prog 13 #[civV c] w fun e w' => e = .returned (secV none) ∧ Below w.heap.size w w' := by
  obtain ⟨xb, l0⟩ := one_box w 24 (civCells c)
  obtain ⟨o0, o1, o2, o3, o4, o5, o6, cf⟩ := xb.seven
  clear cf xb
  have hd := rDays_any c.year c.month
  have hdq := fun wx k => Calls.quiet_of_same (n := k) ((hd (World.drewN wx k)).mono fun _ _ k => ⟨k.1, k.2.symm⟩)
  have h2 : ¬ (1 ≤ c.day ∧ c.day ≤ mdays c.year c.month ∧ 0 ≤ c.hour ∧ c.hour ≤ 23 ∧ 0 ≤ c.minute ∧ c.minute ≤ 59 ∧ 0 ≤ c.second ∧ c.second ≤ 59 ∧ c.year ≤ 292277026596 ∧ -292277022657 ≤ c.year) := by
    rintro ⟨a, b, d, e, f, g, i, j, k, l⟩
    rcases h with h | h | h
    · have := (formedB_iff c).2 ⟨a, b, d, e, f, g, i, j⟩
      rw [h] at this
      cases this
    · omega
    · omega
  clear h hd
  generalize mdays c.year c.month = D at *
  by_cases x0 : c.day < 1
  · have y0 : decide (c.day < 1) = true := decide_eq_true x0
    clear h2
    go_enter Tryd.func13, Tryd.ntmps13
    go_wp2_with fail
    go_quiet (first | (go_at_call 17; exact hdq _ _))
    go_wp2_with fail
    go_ret2
    exact ⟨rfl, below_drewN l0 _⟩
  have y0 : decide (c.day < 1) = false := decide_eq_false x0
  by_cases x1 : D < c.day
  · have y1 : decide (D < c.day) = true := decide_eq_true x1
    clear h2
    go_enter Tryd.func13, Tryd.ntmps13
    go_wp2_with fail
    go_quiet (first | (go_at_call 17; exact hdq _ _))
    go_wp2_with fail
    go_ret2
    exact ⟨rfl, below_drewN l0 _⟩
  have y1 : decide (D < c.day) = false := decide_eq_false x1
  by_cases x2 : c.hour < 0
  · have y2 : decide (c.hour < 0) = true := decide_eq_true x2
    clear h2
    go_enter Tryd.func13, Tryd.ntmps13
    go_wp2_with fail
    go_quiet (first | (go_at_call 17; exact hdq _ _))
    go_wp2_with fail
    go_ret2
    exact ⟨rfl, below_drewN l0 _⟩
  have y2 : decide (c.hour < 0) = false := decide_eq_false x2
  by_cases x3 : 23 < c.hour
  · have y3 : decide (23 < c.hour) = true := decide_eq_true x3
    clear h2
    go_enter Tryd.func13, Tryd.ntmps13
    go_wp2_with fail
    go_quiet (first | (go_at_call 17; exact hdq _ _))
    go_wp2_with fail
    go_ret2
    exact ⟨rfl, below_drewN l0 _⟩
  have y3 : decide (23 < c.hour) = false := decide_eq_false x3
  by_cases x4 : c.minute < 0
  · have y4 : decide (c.minute < 0) = true := decide_eq_true x4
    clear h2
    go_enter Tryd.func13, Tryd.ntmps13
    go_wp2_with fail
    go_quiet (first | (go_at_call 17; exact hdq _ _))
    go_wp2_with fail
    go_ret2
    exact ⟨rfl, below_drewN l0 _⟩
  have y4 : decide (c.minute < 0) = false := decide_eq_false x4
  by_cases x5 : 59 < c.minute
  · have y5 : decide (59 < c.minute) = true := decide_eq_true x5
    clear h2
    go_enter Tryd.func13, Tryd.ntmps13
    go_wp2_with fail
    go_quiet (first | (go_at_call 17; exact hdq _ _))
    go_wp2_with fail
    go_ret2
    exact ⟨rfl, below_drewN l0 _⟩
  have y5 : decide (59 < c.minute) = false := decide_eq_false x5
  by_cases x6 : c.second < 0
  · have y6 : decide (c.second < 0) = true := decide_eq_true x6
    clear h2
    go_enter Tryd.func13, Tryd.ntmps13
    go_wp2_with fail
    go_quiet (first | (go_at_call 17; exact hdq _ _))
    go_wp2_with fail
    go_ret2
    exact ⟨rfl, below_drewN l0 _⟩
  have y6 : decide (c.second < 0) = false := decide_eq_false x6
  by_cases x7 : 59 < c.second
  · have y7 : decide (59 < c.second) = true := decide_eq_true x7
    clear h2
    go_enter Tryd.func13, Tryd.ntmps13
    go_wp2_with fail
    go_quiet (first | (go_at_call 17; exact hdq _ _))
    go_wp2_with fail
    go_ret2
    exact ⟨rfl, below_drewN l0 _⟩
  have y7 : decide (59 < c.second) = false := decide_eq_false x7
  by_cases x8 : 292277026596 < c.year
  · have y8 : decide (292277026596 < c.year) = true := decide_eq_true x8
    clear h2
    go_enter Tryd.func13, Tryd.ntmps13
    go_wp2_with fail
    go_quiet (first | (go_at_call 17; exact hdq _ _))
    go_wp2_with fail
    go_ret2
    exact ⟨rfl, below_drewN l0 _⟩
  have y8 : decide (292277026596 < c.year) = false := decide_eq_false x8
  by_cases x9 : c.year < -292277022657
  · have y9 : decide (c.year < -292277022657) = true := decide_eq_true x9
    clear h2
    go_enter Tryd.func13, Tryd.ntmps13
    go_wp2_with fail
    go_quiet (first | (go_at_call 17; exact hdq _ _))
    go_wp2_with fail
    go_ret2
    exact ⟨rfl, below_drewN l0 _⟩
  have y9 : decide (c.year < -292277022657) = false := decide_eq_false x9
  exact absurd ⟨by omega, by omega, by omega, by omega, by omega, by omega, by omega, by omega, by omega, by omega⟩ h2
end Go.Proofs.YtleffgecobeekaaDoor

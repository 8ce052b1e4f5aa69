/- Package civil and the document's answer: leap years and the days of the months. -/
import Derived.Test.YtddinknnaakmmaaDoorChecked
import Derived.Test.YtddinknnaakmmaaDoorCivM
import Derived.Test.YtddinknnaakmmaaDoorBoxes
import Derived.WalkKit
import Derived.WalkSpells
import Derived.Below
import Derived.BigQuiet
import Derived.Deep.RegionHeld3
import Derived.Deep.MidRow
namespace Go.Proofs.YtddinknnaakmmaaDoor
open Go.RowKit

theorem tmod_zero (y : Int) (n : Int) : (y % n = 0) = (y.tmod n = 0) := by
  apply propext
  rw [← Int.dvd_iff_tmod_eq_zero, ← Int.dvd_iff_emod_eq_zero]
theorem leap_eq (y : Int) : leap y = ((y.tmod 4 == 0) && ((y.tmod 100 != 0) || (y.tmod 400 == 0))) := by
  unfold leap
  simp only [ne_eq, tmod_zero, Bool.decide_and, Bool.decide_or, decide_not]
  rfl
theorem leap_400 (y : Int) (h : y.tmod 400 = 0) : leap y = true := by
  rw [← tmod_zero] at h
  unfold leap
  exact decide_eq_true (by omega)
theorem leap_not400 (y : Int) (h : ¬ y.tmod 400 = 0) : leap y = ((y.tmod 4 == 0) && (y.tmod 100 != 0)) := by
  rw [leap_eq, beq_eq_false_iff_ne.2 h, Bool.or_false]

set_option maxHeartbeats 400000 in
theorem Leap_any (y : Int) (w : World) : Calls Tryd.prog 68 #[.int .i64 y] w fun e w' => e = .returned (.bool (leap y)) ∧ w = w' := by
  rw [leap_eq]
  go_enter Tryd.func68, Tryd.ntmps68
  go_wp2_with fail
  all_goals
    go_ret
    simp [*]

set_option maxHeartbeats 400000 in
theorem rLeap_any (y : Int) (w : World) : Calls Tryd.prog 55 #[.int .i64 y] w fun e w' => e = .returned (.bool (leap y)) ∧ w = w' := by
  by_cases h : y.tmod 400 = 0
  · rw [leap_400 y h]
    go_enter Tryd.func55, Tryd.ntmps55
    go_wp2_with fail
    all_goals
      go_ret
      simp [*]
  · rw [leap_not400 y h]
    go_enter Tryd.func55, Tryd.ntmps55
    go_wp2_with fail
    all_goals
      go_ret
      simp [*]

/-- The table of the months. -/
def lens : List Int := [31, 28, 31, 30, 31, 30, 31, 31, 30, 31, 30, 31]
abbrev lenCells : List Value := [.int .i64 31, .int .i64 28, .int .i64 31, .int .i64 30, .int .i64 31, .int .i64 30, .int .i64 31, .int .i64 31, .int .i64 30, .int .i64 31, .int .i64 30, .int .i64 31]
/-- The table lies where the program's text lays it. -/
def LenAt (w : World) : Prop := w.rangeAt 2 0 lenCells ∧ 2 < w.heap.size
theorem LenAt.later {w w' : World} (h : LenAt w) (hb : Below w.heap.size w w') : LenAt w' :=
  ⟨fun j v hv => (hb.cell (p := ⟨2, 0 + j, none⟩) h.2).trans (h.1 j v hv), Nat.lt_of_lt_of_le h.2 hb.size⟩

theorem LenAt.cell {w : World} (h : LenAt w) (j : Nat) (v : Value) (hv : lenCells[j]? = some v) : w.cell? ⟨2, j, none⟩ = some v := by
  have := h.1 j v hv
  rwa [Nat.zero_add] at this
theorem mdays_at (y m : Int) (h0 : 1 ≤ m) (h1 : m ≤ 12) (h2 : ¬ m = 2) : lenCells[(m - 1).toNat]? = some (.int .i64 (mdays y m)) := by
  have : m = 1 ∨ m = 3 ∨ m = 4 ∨ m = 5 ∨ m = 6 ∨ m = 7 ∨ m = 8 ∨ m = 9 ∨ m = 10 ∨ m = 11 ∨ m = 12 := by omega
  rcases this with rfl | rfl | rfl | rfl | rfl | rfl | rfl | rfl | rfl | rfl | rfl <;> rfl

set_option maxHeartbeats 400000 in
theorem Days_any (y m : Int) (w : World) (hL : LenAt w) : Calls Tryd.prog 63 #[.int .i64 y, .int .i64 m] w fun e w' => e = .returned (.int .i64 (mdays y m)) ∧ w = w' := by
  by_cases h1 : m < 1
  · rw [mdays_none y m (by omega)]
    go_enter Tryd.func63, Tryd.ntmps63
    go_wp2_with fail
    go_ret
    simp
  by_cases h2 : 12 < m
  · rw [mdays_none y m (by omega)]
    go_enter Tryd.func63, Tryd.ntmps63
    go_wp2_with fail
    go_ret
    simp
  have hl := Leap_any y
  by_cases h3 : m = 2
  · subst h3
    have c1 := hL.cell 1 _ rfl
    have hm : mdays y 2 = 28 + more y := rfl
    cases hy : leap y
    · have : more y = 0 := by unfold more; rw [hy]; rfl
      rw [hy] at hl
      rw [hm, this]
      clear hm this hy
      go_enter Tryd.func63, Tryd.ntmps63
      go_wp2_with fail
      refine (hl _).mono ?_
      rintro e w1 ⟨rfl, rfl⟩
      go_wp2_with fail
      go_ret
      simp
    · have : more y = 1 := by unfold more; rw [hy]; rfl
      rw [hy] at hl
      rw [hm, this]
      clear hm this hy
      go_enter Tryd.func63, Tryd.ntmps63
      go_wp2_with fail
      refine (hl _).mono ?_
      rintro e w1 ⟨rfl, rfl⟩
      go_wp2_with fail
      go_ret
      simp
  · have c1 := hL.cell _ _ (mdays_at y m (by omega) (by omega) h3)
    generalize mdays y m = x at *
    obtain ⟨k, rfl⟩ : ∃ k : Nat, m = (k : Int) + 1 := ⟨(m - 1).toNat, by omega⟩
    rw [show ((k : Int) + 1 - 1).toNat = k by omega] at c1
    go_enter Tryd.func63, Tryd.ntmps63
    go_wp2_with fail
    go_ret
    simp

set_option maxHeartbeats 400000 in
theorem rDays_any (y m : Int) (w : World) : Calls Tryd.prog 41 #[.int .i64 y, .int .i64 m] w fun e w' => e = .returned (.int .i64 (mdays y m)) ∧ w = w' := by
  have hl := rLeap_any y
  by_cases h3 : m = 2
  · subst h3
    have hm : mdays y 2 = 28 + more y := rfl
    cases hy : leap y
    · have : more y = 0 := by unfold more; rw [hy]; rfl
      rw [hy] at hl
      rw [hm, this]
      clear hm this hy
      go_enter Tryd.func41, Tryd.ntmps41
      go_wp2_with fail
      refine (hl _).mono ?_
      rintro e w1 ⟨rfl, rfl⟩
      go_wp2_with fail
      go_ret
      simp
    · have : more y = 1 := by unfold more; rw [hy]; rfl
      rw [hy] at hl
      rw [hm, this]
      clear hm this hy
      go_enter Tryd.func41, Tryd.ntmps41
      go_wp2_with fail
      refine (hl _).mono ?_
      rintro e w1 ⟨rfl, rfl⟩
      go_wp2_with fail
      go_ret
      simp
  · by_cases hr : 1 ≤ m ∧ m ≤ 12
    · have hm := mdays_at y m hr.1 hr.2 h3
      have : m = 1 ∨ m = 3 ∨ m = 4 ∨ m = 5 ∨ m = 6 ∨ m = 7 ∨ m = 8 ∨ m = 9 ∨ m = 10 ∨ m = 11 ∨ m = 12 := by omega
      generalize mdays y m = x at *
      clear hl hr h3
      rcases this with rfl | rfl | rfl | rfl | rfl | rfl | rfl | rfl | rfl | rfl | rfl
      all_goals
        cases hm
        go_enter Tryd.func41, Tryd.ntmps41
        go_wp2_with fail
        go_ret
        simp
    · rw [mdays_none y m (by omega)]
      have b1 : (m == 1) = false := beq_eq_false_iff_ne.2 (by omega)
      have b2 : (m == 2) = false := beq_eq_false_iff_ne.2 (by omega)
      have b3 : (m == 3) = false := beq_eq_false_iff_ne.2 (by omega)
      have b4 : (m == 4) = false := beq_eq_false_iff_ne.2 (by omega)
      have b5 : (m == 5) = false := beq_eq_false_iff_ne.2 (by omega)
      have b6 : (m == 6) = false := beq_eq_false_iff_ne.2 (by omega)
      have b7 : (m == 7) = false := beq_eq_false_iff_ne.2 (by omega)
      have b8 : (m == 8) = false := beq_eq_false_iff_ne.2 (by omega)
      have b9 : (m == 9) = false := beq_eq_false_iff_ne.2 (by omega)
      have b10 : (m == 10) = false := beq_eq_false_iff_ne.2 (by omega)
      have b11 : (m == 11) = false := beq_eq_false_iff_ne.2 (by omega)
      have b12 : (m == 12) = false := beq_eq_false_iff_ne.2 (by omega)
      clear hr h3 hl
      go_enter Tryd.func41, Tryd.ntmps41
      go_wp2_with fail
      go_ret
      simp
end Go.Proofs.YtddinknnaakmmaaDoor

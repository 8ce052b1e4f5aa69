/- Package civil and the document's answer: leap years and the days of the months. -/
import Derived.Test.YtddinknnaakmmabDoorChecked
import Derived.Test.YtddinknnaakmmabDoorCivM
import Derived.Test.YtddinknnaakmmabDoorBoxes
import Derived.WalkKit
import Derived.WalkSpells
import Derived.Below
import Derived.BigQuiet
import Derived.Deep.RegionHeld3
import Derived.Deep.MidRow
namespace Go.Proofs.YtddinknnaakmmabDoor
open Go.RowKit

theorem tmod_zero (y : Int) (n : Int) : (y % n = 0) = (y.tmod n = 0) := by
  apply propext
  rw [← Int.dvd_iff_tmod_eq_zero, ← Int.dvd_iff_emod_eq_zero]
theorem leap_eq (y : Int) : leap y = ((y.tmod 4 == 0) && ((y.tmod 100 != 0) || (y.tmod 400 == 0))) := by
  unfold leap
  simp only [ne_eq, tmod_zero, Bool.decide_and, Bool.decide_or, decide_not]
  rfl
theorem leap_400 (y : Int) (h : y.tmod 400 = 0) : leap y = true := by
  rw [← tmod_zero] at h
  unfold leap
  exact decide_eq_true (by omega)
theorem leap_not400 (y : Int) (h : ¬ y.tmod 400 = 0) : leap y = ((y.tmod 4 == 0) && (y.tmod 100 != 0)) := by
  rw [leap_eq, beq_eq_false_iff_ne.2 h, Bool.or_false]

set_option maxHeartbeats 400000 in
theorem Leap_any (y : Int) (w : World) : Calls Tryd.prog 37 #[.int .i64 y] w fun e w' => e = .returned (.bool (leap y)) ∧ w = w' := by
  rw [leap_eq]
  go_enter Tryd.func37, Tryd.ntmps37
  go_wp2_with fail
  all_goals
    go_ret
    simp [*]

/-- The table of the months. -/
def lens : List Int := [31, 28, 31, 30, 31, 30, 31, 31, 30, 31, 30, 31]
abbrev lenCells : List Value := [.int .i64 31, .int .i64 28, .int .i64 31, .int .i64 30, .int .i64 31, .int .i64 30, .int .i64 31, .int .i64 31, .int .i64 30, .int .i64 31, .int .i64 30, .int .i64 31]
/-- The table lies where the program's text lays it. -/
def LenAt (w : World) : Prop := w.rangeAt 1 0 lenCells ∧ 1 < w.heap.size
theorem LenAt.later {w w' : World} (h : LenAt w) (hb : Below w.heap.size w w') : LenAt w' :=
  ⟨fun j v hv => (hb.cell (p := ⟨1, 0 + j, none⟩) h.2).trans (h.1 j v hv), Nat.lt_of_lt_of_le h.2 hb.size⟩

theorem LenAt.cell {w : World} (h : LenAt w) (j : Nat) (v : Value) (hv : lenCells[j]? = some v) : w.cell? ⟨1, j, none⟩ = some v := by
  have := h.1 j v hv
  rwa [Nat.zero_add] at this
theorem mdays_at (y m : Int) (h0 : 1 ≤ m) (h1 : m ≤ 12) (h2 : ¬ m = 2) : lenCells[(m - 1).toNat]? = some (.int .i64 (mdays y m)) := by
  have : m = 1 ∨ m = 3 ∨ m = 4 ∨ m = 5 ∨ m = 6 ∨ m = 7 ∨ m = 8 ∨ m = 9 ∨ m = 10 ∨ m = 11 ∨ m = 12 := by omega
  rcases this with rfl | rfl | rfl | rfl | rfl | rfl | rfl | rfl | rfl | rfl | rfl <;> rfl

set_option maxHeartbeats 400000 in
theorem Days_any (y m : Int) (w : World) (hL : LenAt w) : Calls Tryd.prog 29 #[.int .i64 y, .int .i64 m] w fun e w' => e = .returned (.int .i64 (mdays y m)) ∧ w = w' := by
  by_cases h1 : m < 1
  · rw [mdays_none y m (by omega)]
    go_enter Tryd.func29, Tryd.ntmps29
    go_wp2_with fail
    go_ret
    simp
  by_cases h2 : 12 < m
  · rw [mdays_none y m (by omega)]
    go_enter Tryd.func29, Tryd.ntmps29
    go_wp2_with fail
    go_ret
    simp
  have hl := Leap_any y
  by_cases h3 : m = 2
  · subst h3
    have c1 := hL.cell 1 _ rfl
    have hm : mdays y 2 = 28 + more y := rfl
    cases hy : leap y
    · have : more y = 0 := by unfold more; rw [hy]; rfl
      rw [hy] at hl
      rw [hm, this]
      clear hm this hy
      go_enter Tryd.func29, Tryd.ntmps29
      go_wp2_with fail
      refine (hl _).mono ?_
      rintro e w1 ⟨rfl, rfl⟩
      go_wp2_with fail
      go_ret
      simp
    · have : more y = 1 := by unfold more; rw [hy]; rfl
      rw [hy] at hl
      rw [hm, this]
      clear hm this hy
      go_enter Tryd.func29, Tryd.ntmps29
      go_wp2_with fail
      refine (hl _).mono ?_
      rintro e w1 ⟨rfl, rfl⟩
      go_wp2_with fail
      go_ret
      simp
  · have c1 := hL.cell _ _ (mdays_at y m (by omega) (by omega) h3)
    generalize mdays y m = x at *
    obtain ⟨k, rfl⟩ : ∃ k : Nat, m = (k : Int) + 1 := ⟨(m - 1).toNat, by omega⟩
    rw [show ((k : Int) + 1 - 1).toNat = k by omega] at c1
    go_enter Tryd.func29, Tryd.ntmps29
    go_wp2_with fail
    go_ret
    simp

end Go.Proofs.YtddinknnaakmmabDoor

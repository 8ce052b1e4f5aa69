/- Package scan and the document's answer: classes of runes, runes that are let in. -/
import Derived.Test.YtdikeicnefgjcabDoorBoxes
import Derived.Test.YtdikeicnefgjcabDoorScJ
import Derived.Deep.CutRange
namespace Go.Proofs.YtdikeicnefgjcabDoor
open Go.RowKit

abbrev LetP (r : Int) : Prop := (97 ≤ r ∧ r ≤ 122) ∨ (65 ≤ r ∧ r ≤ 90) ∨ r = 95 ∨ (192 ≤ r ∧ r ≤ 591 ∧ r ≠ 215 ∧ r ≠ 247)
abbrev DigP (r : Int) : Prop := 48 ≤ r ∧ r ≤ 57
abbrev BlaP (r : Int) : Prop := r = 32 ∨ r = 9 ∨ r = 10 ∨ r = 13
abbrev InP (r : Int) : Prop := (r = 9 ∨ r = 10 ∨ r = 13) ∨ (32 ≤ r ∧ ¬ (127 ≤ r ∧ r ≤ 159) ∧ r ≠ 65279)
/-- Of the class? -/
def isC (r c : Int) : Bool := if c = 1 then decide (LetP r) else if c = 2 then decide (DigP r) else if c = 3 then decide (LetP r ∨ DigP r) else if c = 4 then decide (BlaP r) else false
theorem bool_yes {P : Prop} [Decidable P] (h : P) : Value.bool true = .bool (decide P) := by simp [h]
theorem bool_no {P : Prop} [Decidable P] (h : ¬ P) : Value.bool false = .bool (decide P) := by simp [h]
theorem lets_in (r : Nat) : lets r = decide (InP (r : Int)) := by
  unfold lets
  split
  · rw [Bool.eq_iff_iff]; simp; omega
  · rw [Bool.eq_iff_iff]; simp; omega
theorem isC_end (c : Int) : isC 65533 c = false := by
  unfold isC
  repeat' split
  all_goals decide

set_option maxHeartbeats 1000000 in
theorem isLetter_c (r : Int) (w : World) : Calls Tryd.prog 42 #[.int .i32 r] w fun e w' => e = .returned (.bool (decide (LetP r))) ∧ w' = w := by
  obtain ⟨b, hb⟩ : ∃ b : Bool, Hid (b = decide (LetP r)) := ⟨_, rfl⟩
  rw [← hb.out]
  go_enter Tryd.func42, Tryd.ntmps42
  go_wp2
  all_goals go_ret
  all_goals try simp only [beq_eq_false_iff_ne, ne_eq, beq_iff_eq] at *
  all_goals (
    refine ⟨?_, by trivial⟩
    show Ending.returned (Value.bool _) = Ending.returned (Value.bool b)
    rw [hb.out]
    refine congrArg (fun b => Ending.returned (Value.bool b)) ?_
    rw [Bool.eq_iff_iff]
    simp
    try omega)
set_option maxHeartbeats 1000000 in
theorem isDigit_c (r : Int) (w : World) : Calls Tryd.prog 43 #[.int .i32 r] w fun e w' => e = .returned (.bool (decide (DigP r))) ∧ w' = w := by
  obtain ⟨b, hb⟩ : ∃ b : Bool, Hid (b = decide (DigP r)) := ⟨_, rfl⟩
  rw [← hb.out]
  go_enter Tryd.func43, Tryd.ntmps43
  go_wp2
  all_goals go_ret
  all_goals (
    refine ⟨?_, by trivial⟩
    show Ending.returned (Value.bool _) = Ending.returned (Value.bool b)
    rw [hb.out]
    refine congrArg (fun b => Ending.returned (Value.bool b)) ?_
    rw [Bool.eq_iff_iff]
    simp
    try omega)
set_option maxHeartbeats 1000000 in
theorem letIn_c (r : Int) (w : World) : Calls Tryd.prog 37 #[.int .i32 r] w fun e w' => e = .returned (.bool (decide (InP r))) ∧ w' = w := by
  obtain ⟨b, hb⟩ : ∃ b : Bool, Hid (b = decide (InP r)) := ⟨_, rfl⟩
  rw [← hb.out]
  go_enter Tryd.func37, Tryd.ntmps37
  go_wp2
  all_goals go_ret
  all_goals (
    refine ⟨?_, by trivial⟩
    show Ending.returned (Value.bool _) = Ending.returned (Value.bool b)
    rw [hb.out]
    refine congrArg (fun b => Ending.returned (Value.bool b)) ?_
    rw [Bool.eq_iff_iff]
    simp
    try omega)
end Go.Proofs.YtdikeicnefgjcabDoor

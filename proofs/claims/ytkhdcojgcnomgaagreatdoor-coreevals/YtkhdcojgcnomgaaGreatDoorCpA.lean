/- Package core: what the operations reckon. -/
import Derived.Test.YtkhdcojgcnomgaaGreatDoorCoU
namespace Go.Proofs.YtkhdcojgcnomgaaGreatDoor
open Go.RowKit

/-- A function of the program reckons F of one number. -/
def UnC (g : Nat) (P : Int → Prop) (F : Int → Int) : Prop := Ent g ∧ ∀ (a : Int) (W : World), C64 a → P a → Calls Tryz.prog g #[.int .i64 a] W fun e w' => e = .returned (.int .i64 (F a)) ∧ Below W.heap.size W w'
/-- A function of the program reckons F of two numbers. -/
def BiC (g : Nat) (F : Int → Int → Int) : Prop := Ent g ∧ ∀ (a b : Int) (W : World), C64 a → C64 b → Calls Tryz.prog g #[.int .i64 a, .int .i64 b] W fun e w' => e = .returned (.int .i64 (F a b)) ∧ Below W.heap.size W w'
theorem lt64 {a : Int} (h : C64 a) : a < 9223372036854775808 := by have := h.2; omega
theorem un_neg : UnC 82 (fun _ => True) (uF 8) := ⟨fun _ _ => by kernel_rfl, fun a W h _ => Neg_any a h.1 (lt64 h) W⟩
theorem un_abs : UnC 84 (fun _ => True) (uF 10) := ⟨fun _ _ => by kernel_rfl, fun a W h _ => Abs_any a h.1 (lt64 h) W⟩
theorem un_ceil : UnC 85 (fun _ => True) (uF 11) := ⟨fun _ _ => by kernel_rfl, fun a W h _ => Ceil_any a h.1 (lt64 h) W⟩
theorem un_floor : UnC 86 (fun _ => True) (uF 12) := ⟨fun _ _ => by kernel_rfl, fun a W h _ => Floor_any a h.1 (lt64 h) W⟩
theorem un_not : UnC 83 (fun a => a = 0 ∨ a = 1) (uF 9) := ⟨fun _ _ => by kernel_rfl, fun a W h hp => by
  show Calls Tryz.prog 83 #[.int .i64 a] W fun e w' => e = .returned (.int .i64 (1 - a)) ∧ Below W.heap.size W w'
  rcases hp with rfl | rfl
  · go_enter Tryz.func83, Tryz.ntmps83
    go_wp2_with fail
    go_ret
    exact ⟨rfl, Below.refl _ _⟩
  · go_enter Tryz.func83, Tryz.ntmps83
    go_wp2_with fail
    go_ret
    exact ⟨rfl, Below.refl _ _⟩⟩
theorem bi_add : BiC 90 (bF 14) := ⟨fun _ _ => by kernel_rfl, fun a b W ha hb => Add_any a b ha.1 (lt64 ha) hb.1 (lt64 hb) W⟩
theorem bi_sub : BiC 91 (bF 15) := ⟨fun _ _ => by kernel_rfl, fun a b W ha hb => Sub_any a b ha.1 (lt64 ha) hb.1 (lt64 hb) W⟩
theorem bi_mul : BiC 92 (bF 16) := ⟨fun _ _ => by kernel_rfl, fun a b W ha hb => Mul_of a b ha.1 (lt64 ha) hb.1 (lt64 hb) (divOK_any _ _ (by decide) (by decide)) W⟩
theorem bi_less : BiC 94 (bF 18) := ⟨fun _ _ => by kernel_rfl, fun a b W ha hb => by
  show Calls Tryz.prog 94 #[.int .i64 a, .int .i64 b] W fun e w' => e = .returned (.int .i64 (b2i (decide (a < b)))) ∧ Below W.heap.size W w'
  clear ha hb
  have HC := chid (fun x W => truthOf_c x W)
  by_cases h : a < b
  · rw [decide_eq_true h]
    skip
    go_enter Tryz.func94, Tryz.ntmps94
    go_wp2_with fail
    refine Calls.mono (HC.out _ _) ?_
    rintro e w1 ⟨rfl, rfl⟩
    go_wp2_with fail
    go_ret
    exact ⟨rfl, Below.refl _ _⟩
  · rw [decide_eq_false h]
    skip
    go_enter Tryz.func94, Tryz.ntmps94
    go_wp2_with fail
    refine Calls.mono (HC.out _ _) ?_
    rintro e w1 ⟨rfl, rfl⟩
    go_wp2_with fail
    go_ret
    exact ⟨rfl, Below.refl _ _⟩⟩
theorem bi_leq : BiC 95 (bF 19) := ⟨fun _ _ => by kernel_rfl, fun a b W ha hb => by
  show Calls Tryz.prog 95 #[.int .i64 a, .int .i64 b] W fun e w' => e = .returned (.int .i64 (b2i (decide (a ≤ b)))) ∧ Below W.heap.size W w'
  clear ha hb
  have HC := chid (fun x W => truthOf_c x W)
  by_cases h : a ≤ b
  · rw [decide_eq_true h]
    skip
    go_enter Tryz.func95, Tryz.ntmps95
    go_wp2_with fail
    refine Calls.mono (HC.out _ _) ?_
    rintro e w1 ⟨rfl, rfl⟩
    go_wp2_with fail
    go_ret
    exact ⟨rfl, Below.refl _ _⟩
  · rw [decide_eq_false h]
    skip
    go_enter Tryz.func95, Tryz.ntmps95
    go_wp2_with fail
    refine Calls.mono (HC.out _ _) ?_
    rintro e w1 ⟨rfl, rfl⟩
    go_wp2_with fail
    go_ret
    exact ⟨rfl, Below.refl _ _⟩⟩
theorem bi_eq : BiC 96 (bF 20) := ⟨fun _ _ => by kernel_rfl, fun a b W ha hb => by
  show Calls Tryz.prog 96 #[.int .i64 a, .int .i64 b] W fun e w' => e = .returned (.int .i64 (b2i (decide (a = b)))) ∧ Below W.heap.size W w'
  clear ha hb
  have HC := chid (fun x W => truthOf_c x W)
  by_cases h : a = b
  · rw [decide_eq_true h]
    subst h
    go_enter Tryz.func96, Tryz.ntmps96
    go_wp2_with fail
    refine Calls.mono (HC.out _ _) ?_
    rintro e w1 ⟨rfl, rfl⟩
    go_wp2_with fail
    go_ret
    exact ⟨rfl, Below.refl _ _⟩
  · rw [decide_eq_false h]
    have k : (a == b) = false := by simpa using h
    go_enter Tryz.func96, Tryz.ntmps96
    go_wp2_with fail
    refine Calls.mono (HC.out _ _) ?_
    rintro e w1 ⟨rfl, rfl⟩
    go_wp2_with fail
    go_ret
    exact ⟨rfl, Below.refl _ _⟩⟩
theorem bi_more : BiC 97 (bF 21) := ⟨fun _ _ => by kernel_rfl, fun a b W ha hb => by
  show Calls Tryz.prog 97 #[.int .i64 a, .int .i64 b] W fun e w' => e = .returned (.int .i64 (b2i (decide (b < a)))) ∧ Below W.heap.size W w'
  clear ha hb
  have HC := chid (fun x W => truthOf_c x W)
  by_cases h : b < a
  · rw [decide_eq_true h]
    skip
    go_enter Tryz.func97, Tryz.ntmps97
    go_wp2_with fail
    refine Calls.mono (HC.out _ _) ?_
    rintro e w1 ⟨rfl, rfl⟩
    go_wp2_with fail
    go_ret
    exact ⟨rfl, Below.refl _ _⟩
  · rw [decide_eq_false h]
    skip
    go_enter Tryz.func97, Tryz.ntmps97
    go_wp2_with fail
    refine Calls.mono (HC.out _ _) ?_
    rintro e w1 ⟨rfl, rfl⟩
    go_wp2_with fail
    go_ret
    exact ⟨rfl, Below.refl _ _⟩⟩
theorem bi_meq : BiC 98 (bF 22) := ⟨fun _ _ => by kernel_rfl, fun a b W ha hb => by
  show Calls Tryz.prog 98 #[.int .i64 a, .int .i64 b] W fun e w' => e = .returned (.int .i64 (b2i (decide (b ≤ a)))) ∧ Below W.heap.size W w'
  clear ha hb
  have HC := chid (fun x W => truthOf_c x W)
  by_cases h : b ≤ a
  · rw [decide_eq_true h]
    skip
    go_enter Tryz.func98, Tryz.ntmps98
    go_wp2_with fail
    refine Calls.mono (HC.out _ _) ?_
    rintro e w1 ⟨rfl, rfl⟩
    go_wp2_with fail
    go_ret
    exact ⟨rfl, Below.refl _ _⟩
  · rw [decide_eq_false h]
    skip
    go_enter Tryz.func98, Tryz.ntmps98
    go_wp2_with fail
    refine Calls.mono (HC.out _ _) ?_
    rintro e w1 ⟨rfl, rfl⟩
    go_wp2_with fail
    go_ret
    exact ⟨rfl, Below.refl _ _⟩⟩
theorem bi_lesser : BiC 99 (bF 23) := ⟨fun _ _ => by kernel_rfl, fun a b W ha hb => by
  show Calls Tryz.prog 99 #[.int .i64 a, .int .i64 b] W fun e w' => e = .returned (.int .i64 (min a b)) ∧ Below W.heap.size W w'
  clear ha hb
  rcases Int.lt_trichotomy a b with h | h | h
  · rw [Int.min_eq_left (Int.le_of_lt h)]
    have h2 : ¬ b < a := by omega
    have h3 : ¬ b ≤ a := by omega
    go_enter Tryz.func99, Tryz.ntmps99
    go_wp2_with fail
    go_ret
    exact ⟨rfl, Below.refl _ _⟩
  · subst h
    rw [Int.min_eq_left (Int.le_refl a)]
    go_enter Tryz.func99, Tryz.ntmps99
    go_wp2_with fail
    go_ret
    exact ⟨rfl, Below.refl _ _⟩
  · rw [Int.min_eq_right (Int.le_of_lt h)]
    have h2 : ¬ a < b := by omega
    have h3 : ¬ a ≤ b := by omega
    go_enter Tryz.func99, Tryz.ntmps99
    go_wp2_with fail
    go_ret
    exact ⟨rfl, Below.refl _ _⟩⟩
theorem bi_greater : BiC 100 (bF 24) := ⟨fun _ _ => by kernel_rfl, fun a b W ha hb => by
  show Calls Tryz.prog 100 #[.int .i64 a, .int .i64 b] W fun e w' => e = .returned (.int .i64 (max a b)) ∧ Below W.heap.size W w'
  clear ha hb
  rcases Int.lt_trichotomy a b with h | h | h
  · rw [Int.max_eq_right (Int.le_of_lt h)]
    have h2 : ¬ b < a := by omega
    have h3 : ¬ b ≤ a := by omega
    go_enter Tryz.func100, Tryz.ntmps100
    go_wp2_with fail
    go_ret
    exact ⟨rfl, Below.refl _ _⟩
  · subst h
    rw [Int.max_eq_right (Int.le_refl a)]
    go_enter Tryz.func100, Tryz.ntmps100
    go_wp2_with fail
    go_ret
    exact ⟨rfl, Below.refl _ _⟩
  · rw [Int.max_eq_left (Int.le_of_lt h)]
    have h2 : ¬ a < b := by omega
    have h3 : ¬ a ≤ b := by omega
    go_enter Tryz.func100, Tryz.ntmps100
    go_wp2_with fail
    go_ret
    exact ⟨rfl, Below.refl _ _⟩⟩
end Go.Proofs.YtkhdcojgcnomgaaGreatDoor

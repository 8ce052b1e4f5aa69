/- Terms of windows that are right: the program's Right and the document's. -/
import Derived.Test.YthfnjlfhaibbeaaDoorMoM
namespace Go.Proofs.YthfnjlfhaibbeaaDoor
open Go.RowKit

/-- Terms as a value. -/
def tv (m a s p : Int) : Value := .agg #[.int .i64 m, .int .i64 a, .int .i64 s, .int .i64 p]
/-- The terms are right. -/
def RightT (m a s p : Int) : Prop := 0 ≤ m ∧ 1 ≤ a ∧ a ≤ 6 ∧ 1 ≤ s ∧ s ≤ 604800 ∧ (a = 6 → 1 ≤ p ∧ p ≤ 100000000) ∧ (a ≠ 6 → p = 0)
/-- The same, told. -/
def rightB (m a s p : Int) : Bool := decide (0 ≤ m ∧ 1 ≤ a ∧ a ≤ 6 ∧ 1 ≤ s ∧ s ≤ 604800 ∧ (a = 6 → 1 ≤ p ∧ p ≤ 100000000) ∧ (a ≠ 6 → p = 0))
theorem rightB_yes {m a s p : Int} (h : RightT m a s p) : rightB m a s p = true := decide_eq_true h
theorem rightB_no {m a s p : Int} (h : ¬ RightT m a s p) : rightB m a s p = false := decide_eq_false h
set_option maxRecDepth 20000 in
set_option maxHeartbeats 1000000 in
theorem wRight (m a s p : Int) (w : World) :
    Calls Tryd.prog 75 #[tv m a s p] w fun e w' => e = .returned (.bool (rightB m a s p)) ∧ Below w.heap.size w w' := by
  obtain ⟨hR, hB⟩ := one_box w 65 [.int .i64 m, .int .i64 a, .int .i64 s, .int .i64 p]
  have HB := hid hB
  clear hB hR
  generalize hx : rightB m a s p = x
  have HX := hid hx
  clear hx
  simp only [tv]
  by_cases h1 : m < 0 ∨ s < 1 ∨ 604800 < s
  · have e1 : x = false := by rw [← HX.out]; exact rightB_no (fun ⟨r1, r2, r3, r4, r5, r6, r7⟩ => by omega)
    subst e1
    rcases h1 with h1 | h1 | h1
    · go_enter Tryd.func75, Tryd.ntmps75
      go_wp2_with fail
      go_ret
      exact ⟨rfl, HB.out⟩
    · by_cases h2 : m < 0
      all_goals (
        go_enter Tryd.func75, Tryd.ntmps75
        go_wp2_with fail
        go_ret
        exact ⟨rfl, HB.out⟩)
    · have h3 : ¬ s < 1 := by omega
      by_cases h2 : m < 0
      all_goals (
        go_enter Tryd.func75, Tryd.ntmps75
        go_wp2_with fail
        go_ret
        exact ⟨rfl, HB.out⟩)
  · have k1 : ¬ m < 0 := by omega
    have k2 : ¬ s < 1 := by omega
    have k3 : ¬ 604800 < s := by omega
    clear h1
    by_cases h4 : a = 6
    · subst h4
      by_cases h5 : 1 ≤ p
      · by_cases h6 : p ≤ 100000000
        · have e1 : x = true := by rw [← HX.out]; exact rightB_yes ⟨by omega, by omega, by omega, by omega, by omega, fun _ => by omega, fun _ => by omega⟩
          subst e1
          go_enter Tryd.func75, Tryd.ntmps75
          go_wp2_with fail
          go_ret
          exact ⟨rfl, HB.out⟩
        · have e1 : x = false := by rw [← HX.out]; exact rightB_no (fun ⟨r1, r2, r3, r4, r5, r6, r7⟩ => by omega)
          subst e1
          go_enter Tryd.func75, Tryd.ntmps75
          go_wp2_with fail
          go_ret
          exact ⟨rfl, HB.out⟩
      · have e1 : x = false := by rw [← HX.out]; exact rightB_no (fun ⟨r1, r2, r3, r4, r5, r6, r7⟩ => by omega)
        subst e1
        go_enter Tryd.func75, Tryd.ntmps75
        go_wp2_with fail
        go_ret
        exact ⟨rfl, HB.out⟩
    · have h4' : (a == 6) = false := by simpa using h4
      by_cases h5 : 1 ≤ a
      · by_cases h6 : a < 6
        · by_cases h7 : p = 0
          · have e1 : x = true := by rw [← HX.out]; exact rightB_yes ⟨by omega, by omega, by omega, by omega, by omega, fun _ => by omega, fun _ => by omega⟩
            subst e1
            subst h7
            go_enter Tryd.func75, Tryd.ntmps75
            go_wp2_with fail
            go_ret
            exact ⟨rfl, HB.out⟩
          · have e1 : x = false := by rw [← HX.out]; exact rightB_no (fun ⟨r1, r2, r3, r4, r5, r6, r7⟩ => by omega)
            subst e1
            have h7' : (p == 0) = false := by simpa using h7
            clear h7
            go_enter Tryd.func75, Tryd.ntmps75
            go_wp2_with fail
            go_ret
            exact ⟨rfl, HB.out⟩
        · have e1 : x = false := by rw [← HX.out]; exact rightB_no (fun ⟨r1, r2, r3, r4, r5, r6, r7⟩ => by omega)
          subst e1
          go_enter Tryd.func75, Tryd.ntmps75
          go_wp2_with fail
          go_ret
          exact ⟨rfl, HB.out⟩
      · have e1 : x = false := by rw [← HX.out]; exact rightB_no (fun ⟨r1, r2, r3, r4, r5, r6, r7⟩ => by omega)
        subst e1
        go_enter Tryd.func75, Tryd.ntmps75
        go_wp2_with fail
        go_ret
        exact ⟨rfl, HB.out⟩
set_option maxRecDepth 20000 in
set_option maxHeartbeats 1000000 in
theorem fRight (m a s p : Int) (w : World) :
    Calls Tryd.prog 46 #[tv m a s p] w fun e w' => e = .returned (.bool (rightB m a s p)) ∧ Below w.heap.size w w' := by
  obtain ⟨hR, hB⟩ := one_box w 65 [.int .i64 m, .int .i64 a, .int .i64 s, .int .i64 p]
  have HB := hid hB
  clear hB hR
  generalize hx : rightB m a s p = x
  have HX := hid hx
  clear hx
  simp only [tv]
  by_cases h1 : m < 0 ∨ a < 1 ∨ 6 < a ∨ s < 1 ∨ 604800 < s
  · have e1 : x = false := by rw [← HX.out]; exact rightB_no (fun ⟨r1, r2, r3, r4, r5, r6, r7⟩ => by omega)
    subst e1
    by_cases k1 : m < 0
    · clear h1
      go_enter Tryd.func46, Tryd.ntmps46
      go_wp2_with fail
      go_ret
      exact ⟨rfl, HB.out⟩
    · by_cases k2 : a < 1
      · clear h1
        go_enter Tryd.func46, Tryd.ntmps46
        go_wp2_with fail
        go_ret
        exact ⟨rfl, HB.out⟩
      · by_cases k3 : 6 < a
        · clear h1
          go_enter Tryd.func46, Tryd.ntmps46
          go_wp2_with fail
          go_ret
          exact ⟨rfl, HB.out⟩
        · by_cases k4 : s < 1
          · clear h1
            go_enter Tryd.func46, Tryd.ntmps46
            go_wp2_with fail
            go_ret
            exact ⟨rfl, HB.out⟩
          · have k5 : 604800 < s := by omega
            clear h1
            go_enter Tryd.func46, Tryd.ntmps46
            go_wp2_with fail
            go_ret
            exact ⟨rfl, HB.out⟩
  · have k1 : ¬ m < 0 := by omega
    have k2 : ¬ a < 1 := by omega
    have k3 : ¬ 6 < a := by omega
    have k4 : ¬ s < 1 := by omega
    have k5 : ¬ 604800 < s := by omega
    clear h1
    by_cases h4 : a = 6
    · subst h4
      by_cases h5 : 1 ≤ p
      · by_cases h6 : p ≤ 100000000
        · have e1 : x = true := by rw [← HX.out]; exact rightB_yes ⟨by omega, by omega, by omega, by omega, by omega, fun _ => by omega, fun _ => by omega⟩
          subst e1
          go_enter Tryd.func46, Tryd.ntmps46
          go_wp2_with fail
          go_ret
          exact ⟨rfl, HB.out⟩
        · have e1 : x = false := by rw [← HX.out]; exact rightB_no (fun ⟨r1, r2, r3, r4, r5, r6, r7⟩ => by omega)
          subst e1
          go_enter Tryd.func46, Tryd.ntmps46
          go_wp2_with fail
          go_ret
          exact ⟨rfl, HB.out⟩
      · have e1 : x = false := by rw [← HX.out]; exact rightB_no (fun ⟨r1, r2, r3, r4, r5, r6, r7⟩ => by omega)
        subst e1
        go_enter Tryd.func46, Tryd.ntmps46
        go_wp2_with fail
        go_ret
        exact ⟨rfl, HB.out⟩
    · have h4' : (a == 6) = false := by simpa using h4
      by_cases h7 : p = 0
      · have e1 : x = true := by rw [← HX.out]; exact rightB_yes ⟨by omega, by omega, by omega, by omega, by omega, fun _ => by omega, fun _ => by omega⟩
        subst e1
        subst h7
        go_enter Tryd.func46, Tryd.ntmps46
        go_wp2_with fail
        go_ret
        exact ⟨rfl, HB.out⟩
      · have e1 : x = false := by rw [← HX.out]; exact rightB_no (fun ⟨r1, r2, r3, r4, r5, r6, r7⟩ => by omega)
        subst e1
        have h7' : (p == 0) = false := by simpa using h7
        clear h7
        go_enter Tryd.func46, Tryd.ntmps46
        go_wp2_with fail
        go_ret
        exact ⟨rfl, HB.out⟩
end Go.Proofs.YthfnjlfhaibbeaaDoor

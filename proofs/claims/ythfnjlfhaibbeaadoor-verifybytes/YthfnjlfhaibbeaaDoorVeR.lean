/- Package core: cooldown, Right; the document's Right. -/
import Derived.Test.YthfnjlfhaibbeaaDoorDcM
namespace Go.Proofs.YthfnjlfhaibbeaaDoor
open Go.RowKit

def coolB (s : Int) : Bool := decide (0 ≤ s ∧ s ≤ 604800)
theorem cool_c (s : Int) (w : World) : Calls Tryd.prog 74 #[.int .i64 s] w fun e w' => e = .returned (.bool (coolB s)) ∧ w = w' := by
  by_cases h1 : 0 ≤ s
  · by_cases h2 : s ≤ 604800
    · have hb : coolB s = true := decide_eq_true ⟨h1, h2⟩
      rw [hb]
      go_enter Tryd.func74, Tryd.ntmps74
      go_wp2_with fail
      go_ret
      exact ⟨rfl, rfl⟩
    · have hb : coolB s = false := decide_eq_false fun h => h2 h.2
      rw [hb]
      go_enter Tryd.func74, Tryd.ntmps74
      go_wp2_with fail
      go_ret
      exact ⟨rfl, rfl⟩
  · have hb : coolB s = false := decide_eq_false fun h => h1 h.1
    rw [hb]
    go_enter Tryd.func74, Tryd.ntmps74
    go_wp2_with fail
    go_ret
    exact ⟨rfl, rfl⟩
def rulesB (a b c d e : Int) : Bool := decide (0 ≤ a ∧ a ≤ b ∧ 1 ≤ b ∧ b ≤ 1000000 ∧ 1 ≤ c ∧ c ≤ 1000000 ∧ 0 ≤ d ∧ d ≤ 604800 ∧ 0 ≤ e ∧ e ≤ 604800)

set_option maxHeartbeats 2000000 in
set_option maxRecDepth 20000 in
theorem rRight5 (a b c d e : Int) (w : World) : Calls Tryd.prog 45 #[.agg #[.int .i64 a, .int .i64 b, .int .i64 c, .int .i64 d, .int .i64 e]] w fun x w' => x = .returned (.bool (rulesB a b c d e)) ∧ Below w.heap.size w w' := by
  have HB := chid ((Below.refl w.heap.size w).alloc (Nat.le_refl _) (.cells #[.int .i64 a, .int .i64 b, .int .i64 c, .int .i64 d, .int .i64 e] 25))
  generalize hx : rulesB a b c d e = x
  have HX := chid hx
  clear hx
  by_cases h0 : 0 ≤ a
  case neg =>
    have e1 : x = false := by rw [← HX.out]; exact decide_eq_false (fun hh => h0 (by omega))
    subst e1
    go_enter Tryd.func45, Tryd.ntmps45
    go_wp2_with fail
    go_ret
    exact ⟨rfl, HB.out⟩
  by_cases h1 : a ≤ b
  case neg =>
    have e1 : x = false := by rw [← HX.out]; exact decide_eq_false (fun hh => h1 (by omega))
    subst e1
    go_enter Tryd.func45, Tryd.ntmps45
    go_wp2_with fail
    go_ret
    exact ⟨rfl, HB.out⟩
  by_cases h2 : 1 ≤ b
  case neg =>
    have e1 : x = false := by rw [← HX.out]; exact decide_eq_false (fun hh => h2 (by omega))
    subst e1
    go_enter Tryd.func45, Tryd.ntmps45
    go_wp2_with fail
    go_ret
    exact ⟨rfl, HB.out⟩
  by_cases h3 : b ≤ 1000000
  case neg =>
    have e1 : x = false := by rw [← HX.out]; exact decide_eq_false (fun hh => h3 (by omega))
    subst e1
    go_enter Tryd.func45, Tryd.ntmps45
    go_wp2_with fail
    go_ret
    exact ⟨rfl, HB.out⟩
  by_cases h4 : 1 ≤ c
  case neg =>
    have e1 : x = false := by rw [← HX.out]; exact decide_eq_false (fun hh => h4 (by omega))
    subst e1
    go_enter Tryd.func45, Tryd.ntmps45
    go_wp2_with fail
    go_ret
    exact ⟨rfl, HB.out⟩
  by_cases h5 : c ≤ 1000000
  case neg =>
    have e1 : x = false := by rw [← HX.out]; exact decide_eq_false (fun hh => h5 (by omega))
    subst e1
    go_enter Tryd.func45, Tryd.ntmps45
    go_wp2_with fail
    go_ret
    exact ⟨rfl, HB.out⟩
  by_cases h6 : 0 ≤ d
  case neg =>
    have e1 : x = false := by rw [← HX.out]; exact decide_eq_false (fun hh => h6 (by omega))
    subst e1
    go_enter Tryd.func45, Tryd.ntmps45
    go_wp2_with fail
    go_ret
    exact ⟨rfl, HB.out⟩
  by_cases h7 : d ≤ 604800
  case neg =>
    have e1 : x = false := by rw [← HX.out]; exact decide_eq_false (fun hh => h7 (by omega))
    subst e1
    go_enter Tryd.func45, Tryd.ntmps45
    go_wp2_with fail
    go_ret
    exact ⟨rfl, HB.out⟩
  by_cases h8 : 0 ≤ e
  case neg =>
    have e1 : x = false := by rw [← HX.out]; exact decide_eq_false (fun hh => h8 (by omega))
    subst e1
    go_enter Tryd.func45, Tryd.ntmps45
    go_wp2_with fail
    go_ret
    exact ⟨rfl, HB.out⟩
  by_cases h9 : e ≤ 604800
  case neg =>
    have e1 : x = false := by rw [← HX.out]; exact decide_eq_false (fun hh => h9 (by omega))
    subst e1
    go_enter Tryd.func45, Tryd.ntmps45
    go_wp2_with fail
    go_ret
    exact ⟨rfl, HB.out⟩
  have e1 : x = true := by rw [← HX.out]; exact decide_eq_true ⟨h0, h1, h2, h3, h4, h5, h6, h7, h8, h9⟩
  subst e1
  go_enter Tryd.func45, Tryd.ntmps45
  go_wp2_with fail
  go_ret
  exact ⟨rfl, HB.out⟩
set_option maxHeartbeats 2000000 in
set_option maxRecDepth 20000 in
theorem cRight5 (a b c d e : Int) (w : World) : Calls Tryd.prog 60 #[.agg #[.int .i64 a, .int .i64 b, .int .i64 c, .int .i64 d, .int .i64 e]] w fun x w' => x = .returned (.bool (rulesB a b c d e)) ∧ Below w.heap.size w w' := by
  have HB := chid ((Below.refl w.heap.size w).alloc (Nat.le_refl _) (.cells #[.int .i64 a, .int .i64 b, .int .i64 c, .int .i64 d, .int .i64 e] 25))
  have HC1 := chid (fun W => cool_c d W)
  have HC2 := chid (fun W => cool_c e W)
  generalize hx : rulesB a b c d e = x
  have HX := chid hx
  clear hx
  by_cases h0 : 0 ≤ a
  case neg =>
    by_cases h4 : 1 ≤ c
    · by_cases h5 : c ≤ 1000000
      · skip
        have e1 : x = false := by rw [← HX.out]; exact decide_eq_false (fun hh => h0 (by omega))
        subst e1
        go_enter Tryd.func60, Tryd.ntmps60
        go_wp2_with fail
        go_ret
        exact ⟨rfl, HB.out⟩
      · skip
        have e1 : x = false := by rw [← HX.out]; exact decide_eq_false (fun hh => h0 (by omega))
        subst e1
        go_enter Tryd.func60, Tryd.ntmps60
        go_wp2_with fail
        go_ret
        exact ⟨rfl, HB.out⟩
    · skip
      have e1 : x = false := by rw [← HX.out]; exact decide_eq_false (fun hh => h0 (by omega))
      subst e1
      go_enter Tryd.func60, Tryd.ntmps60
      go_wp2_with fail
      go_ret
      exact ⟨rfl, HB.out⟩
  by_cases h1 : a ≤ b
  case neg =>
    by_cases h4 : 1 ≤ c
    · by_cases h5 : c ≤ 1000000
      · skip
        have e1 : x = false := by rw [← HX.out]; exact decide_eq_false (fun hh => h1 (by omega))
        subst e1
        go_enter Tryd.func60, Tryd.ntmps60
        go_wp2_with fail
        go_ret
        exact ⟨rfl, HB.out⟩
      · skip
        have e1 : x = false := by rw [← HX.out]; exact decide_eq_false (fun hh => h1 (by omega))
        subst e1
        go_enter Tryd.func60, Tryd.ntmps60
        go_wp2_with fail
        go_ret
        exact ⟨rfl, HB.out⟩
    · skip
      have e1 : x = false := by rw [← HX.out]; exact decide_eq_false (fun hh => h1 (by omega))
      subst e1
      go_enter Tryd.func60, Tryd.ntmps60
      go_wp2_with fail
      go_ret
      exact ⟨rfl, HB.out⟩
  by_cases h2 : 1 ≤ b
  case neg =>
    by_cases h4 : 1 ≤ c
    · by_cases h5 : c ≤ 1000000
      · skip
        have e1 : x = false := by rw [← HX.out]; exact decide_eq_false (fun hh => h2 (by omega))
        subst e1
        go_enter Tryd.func60, Tryd.ntmps60
        go_wp2_with fail
        go_ret
        exact ⟨rfl, HB.out⟩
      · skip
        have e1 : x = false := by rw [← HX.out]; exact decide_eq_false (fun hh => h2 (by omega))
        subst e1
        go_enter Tryd.func60, Tryd.ntmps60
        go_wp2_with fail
        go_ret
        exact ⟨rfl, HB.out⟩
    · skip
      have e1 : x = false := by rw [← HX.out]; exact decide_eq_false (fun hh => h2 (by omega))
      subst e1
      go_enter Tryd.func60, Tryd.ntmps60
      go_wp2_with fail
      go_ret
      exact ⟨rfl, HB.out⟩
  by_cases h3 : b ≤ 1000000
  case neg =>
    by_cases h4 : 1 ≤ c
    · by_cases h5 : c ≤ 1000000
      · skip
        have e1 : x = false := by rw [← HX.out]; exact decide_eq_false (fun hh => h3 (by omega))
        subst e1
        go_enter Tryd.func60, Tryd.ntmps60
        go_wp2_with fail
        go_ret
        exact ⟨rfl, HB.out⟩
      · skip
        have e1 : x = false := by rw [← HX.out]; exact decide_eq_false (fun hh => h3 (by omega))
        subst e1
        go_enter Tryd.func60, Tryd.ntmps60
        go_wp2_with fail
        go_ret
        exact ⟨rfl, HB.out⟩
    · skip
      have e1 : x = false := by rw [← HX.out]; exact decide_eq_false (fun hh => h3 (by omega))
      subst e1
      go_enter Tryd.func60, Tryd.ntmps60
      go_wp2_with fail
      go_ret
      exact ⟨rfl, HB.out⟩
  by_cases h4 : 1 ≤ c
  case neg =>
    have e1 : x = false := by rw [← HX.out]; exact decide_eq_false (fun hh => h4 (by omega))
    subst e1
    go_enter Tryd.func60, Tryd.ntmps60
    go_wp2_with fail
    go_ret
    exact ⟨rfl, HB.out⟩
  by_cases h5 : c ≤ 1000000
  case neg =>
    have e1 : x = false := by rw [← HX.out]; exact decide_eq_false (fun hh => h5 (by omega))
    subst e1
    go_enter Tryd.func60, Tryd.ntmps60
    go_wp2_with fail
    go_ret
    exact ⟨rfl, HB.out⟩
  have e1 : x = (coolB d && coolB e) := by
    rw [← HX.out]
    unfold rulesB coolB
    rw [← Bool.decide_and]
    exact decide_eq_decide.2 ⟨fun h => by omega, fun h => by omega⟩
  subst e1
  generalize coolB d = y1 at *
  generalize coolB e = y2 at *
  clear HX
  cases y1 with
  | false =>
    go_enter Tryd.func60, Tryd.ntmps60
    go_wp2_with fail
    refine Calls.mono (HC1.out _) ?_
    rintro e w1 ⟨rfl, rfl⟩
    go_wp2_with fail
    go_ret
    exact ⟨rfl, HB.out⟩
  | true =>
    go_enter Tryd.func60, Tryd.ntmps60
    go_wp2_with fail
    refine Calls.mono (HC1.out _) ?_
    rintro e w1 ⟨rfl, rfl⟩
    go_wp2_with fail
    refine Calls.mono (HC2.out _) ?_
    rintro e w1 ⟨rfl, rfl⟩
    go_wp2_with fail
    go_ret
    exact ⟨rfl, HB.out⟩
end Go.Proofs.YthfnjlfhaibbeaaDoor

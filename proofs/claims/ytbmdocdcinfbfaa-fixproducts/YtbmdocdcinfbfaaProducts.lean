/- The statement FixProducts: the walk of her Go text, out of the contracts of package fix and of the document's arithmetic. -/
import Derived.Test.YtbmdocdcinfbfaaFix2
import Derived.Test.YtbmdocdcinfbfaaDiv1
import Derived.Test.YtbmdocdcinfbfaaRef9
import Derived.OpenShut
namespace Go.Proofs.Ytbmdocdcinfbfaa
open Go.RowKit

theorem rheld_eq (n : Int) : rheld n = held n := rfl
theorem rfl_eq (n d : Int) : rfl' n d = fl n d := rfl

set_option maxHeartbeats 1000000 in
set_option maxRecDepth 100000 in
theorem fixProducts_walk (a b c : Int) (ha : (Lit.int .i64 a).wf = true) (hb : (Lit.int .i64 b).wf = true) (hc : (Lit.int .i64 c).wf = true) (w : World) :
    Calls Try.prog 4 #[.int .i64 a, .int .i64 b, .int .i64 c] w fun e w' => e = .returned (.bool true) ∧ Below w.heap.size w w' := by
  have a0 := (bounds_i64 ha).1
  have a1 : a < 9223372036854775808 := by have := bounds_i64 ha; omega
  have b0 := (bounds_i64 hb).1
  have b1 : b < 9223372036854775808 := by have := bounds_i64 hb; omega
  have c0 := (bounds_i64 hc).1
  have c1 : c < 9223372036854775808 := by have := bounds_i64 hc; omega
  clear ha hb hc
  by_cases hz : b = 0
  · subst hz
    by_cases k0 : 1 ≤ c
    · have m0 : (0 : Int) ≤ 0 := by decide
      go_enter Try.func4, Try.ntmps4
      go_wp2_with fail
      refine (awake_any _).mono ?_
      rintro e w1 ⟨rfl, hb1⟩
      go_wp2_with fail
      refine (Div_zero a _).mono ?_
      rintro e w2 ⟨rfl, hb2⟩
      go_wp2_with fail
      refine (rDiv_zero a _).mono ?_
      rintro e w3 ⟨rfl, hb3⟩
      go_wp2_with fail
      refine (Mul_of a 0 a0 a1 b0 b1 (divOK_any _ _ (by decide) (by decide)) _).mono ?_
      rintro e w4 ⟨rfl, hb4⟩
      go_wp2_with fail
      refine (rMul_any a 0 a0 a1 b0 b1 _).mono ?_
      rw [rheld_eq]
      rintro e w5 ⟨rfl, hb5⟩
      go_wp2_with fail
      refine (Scale_of a 0 c a0 a1 m0 b1 k0 c1 (divOK_any _ _ (by omega) (by omega)) _).mono ?_
      rintro e w6 ⟨rfl, hb6⟩
      go_wp2_with fail
      refine (rScale_any a 0 c a0 a1 m0 b1 k0 c1 _).mono ?_
      rw [rheld_eq]
      rintro e w7 ⟨rfl, hb7⟩
      go_wp2_with fail
      go_ret
      exact ⟨rfl, below_two (below_two (below_two (below_two (below_two (below_two (hb1) hb2) hb3) hb4) hb5) hb6) hb7⟩
    · have hno : (0 : Int) < 0 ∨ c < 1 := .inr (by omega)
      go_enter Try.func4, Try.ntmps4
      go_wp2_with fail
      refine (awake_any _).mono ?_
      rintro e w1 ⟨rfl, hb1⟩
      go_wp2_with fail
      refine (Div_zero a _).mono ?_
      rintro e w2 ⟨rfl, hb2⟩
      go_wp2_with fail
      refine (rDiv_zero a _).mono ?_
      rintro e w3 ⟨rfl, hb3⟩
      go_wp2_with fail
      refine (Mul_of a 0 a0 a1 b0 b1 (divOK_any _ _ (by decide) (by decide)) _).mono ?_
      rintro e w4 ⟨rfl, hb4⟩
      go_wp2_with fail
      refine (rMul_any a 0 a0 a1 b0 b1 _).mono ?_
      rw [rheld_eq]
      rintro e w5 ⟨rfl, hb5⟩
      go_wp2_with fail
      refine (Scale_none a 0 c hno _).mono ?_
      rintro e w6 ⟨rfl, hb6⟩
      go_wp2_with fail
      refine (rScale_none a 0 c hno _).mono ?_
      rintro e w7 ⟨rfl, hb7⟩
      go_wp2_with fail
      go_ret
      exact ⟨rfl, below_two (below_two (below_two (below_two (below_two (below_two (hb1) hb2) hb3) hb4) hb5) hb6) hb7⟩
  have HZ : Hid (b ≠ 0) := hz
  clear hz
  by_cases hs : 0 ≤ b ∧ 1 ≤ c
  · obtain ⟨m0, k0⟩ := hs
    go_enter Try.func4, Try.ntmps4
    go_wp2_with fail
    refine (awake_any _).mono ?_
    rintro e w1 ⟨rfl, hb1⟩
    go_wp2_with fail
    refine (Div_of a b a0 a1 b0 b1 HZ.out (divOK_any _ _ (by have : b ≠ 0 := HZ.out; omega) (by omega)) _).mono ?_
    rintro e w2 ⟨rfl, hb2⟩
    go_wp2_with fail
    refine (rDiv_any a b a0 a1 b0 b1 HZ.out _).mono ?_
    rw [rheld_eq, rfl_eq]
    rintro e w3 ⟨rfl, hb3⟩
    go_wp2_with fail
    refine (Mul_of a b a0 a1 b0 b1 (divOK_any _ _ (by decide) (by decide)) _).mono ?_
    rintro e w4 ⟨rfl, hb4⟩
    go_wp2_with fail
    refine (rMul_any a b a0 a1 b0 b1 _).mono ?_
    rw [rheld_eq]
    rintro e w5 ⟨rfl, hb5⟩
    go_wp2_with fail
    refine (Scale_of a b c a0 a1 m0 b1 k0 c1 (divOK_any _ _ (by omega) (by omega)) _).mono ?_
    rintro e w6 ⟨rfl, hb6⟩
    go_wp2_with fail
    refine (rScale_any a b c a0 a1 m0 b1 k0 c1 _).mono ?_
    rw [rheld_eq]
    rintro e w7 ⟨rfl, hb7⟩
    go_wp2_with fail
    go_ret
    exact ⟨rfl, below_two (below_two (below_two (below_two (below_two (below_two (hb1) hb2) hb3) hb4) hb5) hb6) hb7⟩
  · have hno : b < 0 ∨ c < 1 := by omega
    clear hs
    go_enter Try.func4, Try.ntmps4
    go_wp2_with fail
    refine (awake_any _).mono ?_
    rintro e w1 ⟨rfl, hb1⟩
    go_wp2_with fail
    refine (Div_of a b a0 a1 b0 b1 HZ.out (divOK_any _ _ (by have : b ≠ 0 := HZ.out; omega) (by omega)) _).mono ?_
    rintro e w2 ⟨rfl, hb2⟩
    go_wp2_with fail
    refine (rDiv_any a b a0 a1 b0 b1 HZ.out _).mono ?_
    rw [rheld_eq, rfl_eq]
    rintro e w3 ⟨rfl, hb3⟩
    go_wp2_with fail
    refine (Mul_of a b a0 a1 b0 b1 (divOK_any _ _ (by decide) (by decide)) _).mono ?_
    rintro e w4 ⟨rfl, hb4⟩
    go_wp2_with fail
    refine (rMul_any a b a0 a1 b0 b1 _).mono ?_
    rw [rheld_eq]
    rintro e w5 ⟨rfl, hb5⟩
    go_wp2_with fail
    refine (Scale_none a b c hno _).mono ?_
    rintro e w6 ⟨rfl, hb6⟩
    go_wp2_with fail
    refine (rScale_none a b c hno _).mono ?_
    rintro e w7 ⟨rfl, hb7⟩
    go_wp2_with fail
    go_ret
    exact ⟨rfl, below_two (below_two (below_two (below_two (below_two (below_two (hb1) hb2) hb3) hb4) hb5) hb6) hb7⟩
end Go.Proofs.Ytbmdocdcinfbfaa

/- The document's Mul, Scale, Floor, Ceil, Whole, Count, Mean and Div (package capstanref01). -/
import Derived.Test.YtccgbkafcbfcgaaRef7
namespace Go.Proofs.Ytccgbkafcbfcgaa
open Go.RowKit Go.Deep

theorem pw8 : pw 8 = 340282366920938463463374607431768211456 := by decide
theorem BigV.len8 {w : World} {neg : Bool} {s : Value} {l : List Int} {n : Int} (h : BigV w neg s l n) (h0 : -340282366920938463463374607431768211456 < n) (h1 : n < 340282366920938463463374607431768211456) : l.length ≤ 400 := by
  have := h.len 8 (by rw [pw8]; omega)
  omega
theorem prod_ex (a b : Int) (a0 : -9223372036854775808 ≤ a) (a1 : a < 9223372036854775808) (b0 : -9223372036854775808 ≤ b) (b1 : b < 9223372036854775808) :
    -85070591730234615865843651857942052864 ≤ a * b ∧ a * b ≤ 85070591730234615865843651857942052864 := by
  have h1 : (a.natAbs * b.natAbs : Nat) ≤ 9223372036854775808 * 9223372036854775808 := Nat.mul_le_mul (by omega) (by omega)
  rw [← Int.natAbs_mul] at h1
  omega

theorem rheld_bd (n : Int) : -9223372036854775808 ≤ rheld n ∧ rheld n < 9223372036854775808 := by unfold rheld; split <;> (try split) <;> omega
theorem rheld_in (n : Int) (h0 : -9223372036854775808 ≤ n) (h1 : n < 9223372036854775808) : rheld n = n := by unfold rheld; rw [if_neg (by omega), if_neg (by omega)]
end Go.Proofs.Ytccgbkafcbfcgaa

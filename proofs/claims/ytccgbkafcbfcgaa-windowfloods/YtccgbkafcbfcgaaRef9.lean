/- The document's Div and Mean (package capstanref01). -/
import Derived.Test.YtccgbkafcbfcgaaRef8
namespace Go.Proofs.Ytccgbkafcbfcgaa
open Go.RowKit Go.Deep

theorem two_allocs (w : World) (o1 o2 : Obj) : Below w.heap.size w ((w.alloc o1).alloc o2) := ((Below.refl _ _).alloc (Nat.le_refl _) _).alloc (by simp) _
/-- Rounded down, whatever the divisor's sign. -/
def rfl' (n d : Int) : Int := if 0 < d then n / d else (-n) / (-d)

set_option maxHeartbeats 400000 in
theorem rMean_any (na : Bool) (sa : Value) (la : List Int) (a n : Int) (w : World) (ha : BigV w na sa la a) (ka : la.length ≤ 400) (n0 : 1 ≤ n) (n1 : n < 9223372036854775808) :
    Calls Try.prog 54 #[.agg #[.bool na, sa], .int .i64 n] w (FitOut w (a / n)) := by
  obtain ⟨aa, ca, rfl, _⟩ := ha.isD
  have k : ¬ n < 1 := by omega
  go_enter Try.func54, Try.ntmps54
  go_wp2_with fail
  refine (Over_any na _ la a n _ (ha.later ((Below.refl _ _).alloc (Nat.le_refl _) _)) ka n0 n1).mono ?_
  rintro e w1 ⟨nd, sd, ld, rfl, vd, hb1⟩
  go_wp2_with fail
  refine (rFit_any nd sd ld _ _ vd).mono ?_
  rintro e w2 ⟨x, b, rfl, hb, hx, hb2⟩
  go_wp2_with fail
  go_ret2
  exact ⟨x, b, rfl, hb, hx, below_on (((Below.refl _ _).alloc (Nat.le_refl _) _).trans (hb1.mono (by simp))) hb2⟩
theorem rMean_none (na : Bool) (sa : Value) (la : List Int) (a n : Int) (w : World) (ha : BigV w na sa la a) (n0 : n < 1) :
    Calls Try.prog 54 #[.agg #[.bool na, sa], .int .i64 n] w fun e w' => e = .returned (.tuple #[.int .i64 0, .bool false]) ∧ Below w.heap.size w w' := by
  obtain ⟨aa, ca, rfl, _⟩ := ha.isD
  go_enter Try.func54, Try.ntmps54
  go_wp2_with fail
  go_ret2
  exact ⟨rfl, (Below.refl _ _).alloc (Nat.le_refl _) _⟩
end Go.Proofs.Ytccgbkafcbfcgaa

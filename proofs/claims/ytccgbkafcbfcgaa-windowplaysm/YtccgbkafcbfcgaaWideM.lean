/- The methods of fix.Wide: at nil, and at a pointer whose two words stand for a number. -/
import Derived.Test.YtccgbkafcbfcgaaFix2
import Derived.OpenShut
namespace Go.Proofs.Ytccgbkafcbfcgaa
open Go.RowKit

set_option maxHeartbeats 400000 in
theorem wAdd_nil (v : Int) (w : World) : Calls Try.prog 42 #[.pointer none, .int .i64 v] w fun e w' => e = .returned (.tuple #[]) ∧ w' = w := by
  go_enter Try.func42, Try.ntmps42
  go_wp2_with fail
  go_end0
  exact ⟨rfl, rfl⟩
set_option maxHeartbeats 400000 in
theorem wTake_nil (v : Int) (w : World) : Calls Try.prog 39 #[.pointer none, .int .i64 v] w fun e w' => e = .returned (.tuple #[]) ∧ w' = w := by
  go_enter Try.func39, Try.ntmps39
  go_wp2_with fail
  go_end0
  exact ⟨rfl, rfl⟩
set_option maxHeartbeats 400000 in
theorem total_nil (w : World) : Calls Try.prog 69 #[.pointer none] w fun e w' => e = .returned (.agg #[.int .u64 0, .int .u64 0]) ∧ Below w.heap.size w w' := by
  go_enter Try.func69, Try.ntmps69
  go_wp2_with fail
  refine bodyPost_ret (v := .agg #[.int .u64 0, .int .u64 0]) (by simp [results, Try.results69, go_sem]) rfl ⟨rfl, ?_⟩
  exact (Below.refl _ _).alloc (Nat.le_refl _) _
set_option maxHeartbeats 400000 in
theorem total_at (b : Nat) (lo hi : Int) (w : World) (hb : b < w.heap.size) (c0 : w.cell? ⟨b, 0, none⟩ = some (.int .u64 lo)) (c1 : w.cell? ⟨b, 1, none⟩ = some (.int .u64 hi)) :
    Calls Try.prog 69 #[.pointer (some ⟨b, 0, none⟩)] w fun e w' => e = .returned (.agg #[.int .u64 lo, .int .u64 hi]) ∧ Below w.heap.size w w' := by
  go_enter Try.func69, Try.ntmps69
  go_wp2_with fail
  refine bodyPost_ret (v := .agg #[.int .u64 lo, .int .u64 hi]) (by simp [results, Try.results69, go_sem]) rfl ⟨rfl, ?_⟩
  exact (Below.refl _ _).alloc (Nat.le_refl _) _

set_option maxHeartbeats 400000 in
theorem wFit_nil (w : World) : Calls Try.prog 45 #[.pointer none] w fun e w' => e = .returned (.tuple #[.int .i64 0, .bool true]) ∧ Below w.heap.size w w' := by
  go_enter Try.func45, Try.ntmps45
  go_wp2_with fail
  refine (total_nil _).mono ?_
  rintro e w1 ⟨rfl, hb1⟩
  go_wp2_with fail
  refine (fit_in 0 0 0 rep_zero (by decide) (by decide) _).mono ?_
  rintro e w2 ⟨rfl, hb2⟩
  go_wp2_with fail
  go_ret2
  exact ⟨rfl, below_two hb1 hb2⟩
set_option maxHeartbeats 400000 in
theorem wMean_nil (n : Int) (n1 : n < 9223372036854775808) (w : World) : Calls Try.prog 46 #[.pointer none, .int .i64 n] w fun e w' => e = .returned (.tuple #[.int .i64 0, .bool (decide (1 ≤ n))]) ∧ Below w.heap.size w w' := by
  by_cases h : n < 1
  · have hd : decide (1 ≤ n) = false := by simp; omega
    rw [hd]
    clear hd
    go_enter Try.func46, Try.ntmps46
    go_wp2_with fail
    go_ret2
    exact ⟨rfl, Below.refl _ _⟩
  · have hd : decide (1 ≤ n) = true := by simp; omega
    rw [hd]
    clear hd
    have h1 : 0 < n := by omega
    have e1 : fl 0 n = 0 := by unfold fl; rw [if_pos h1]; simp
    go_enter Try.func46, Try.ntmps46
    go_wp2_with fail
    refine (total_nil _).mono ?_
    rintro e w1 ⟨rfl, hb1⟩
    go_wp2_with fail
    refine (over_of 0 0 0 n n rep_zero (by decide) (by omega) n1 (by omega) (by omega) (divOK_small _ _ (by decide) (by decide) h1) _).mono ?_
    rw [e1]
    rintro e w2 ⟨lo, hi, rfl, r2, hb2⟩
    obtain ⟨rfl, rfl⟩ := Rep.unique r2 rep_zero
    go_wp2_with fail
    refine (fit_in 0 0 0 rep_zero (by decide) (by decide) _).mono ?_
    rintro e w3 ⟨rfl, hb3⟩
    go_wp2_with fail
    go_ret2
    exact ⟨rfl, below_two (below_two hb1 hb2) hb3⟩
set_option maxHeartbeats 400000 in
theorem wFit_at (b : Nat) (lo hi n : Int) (r : Rep lo hi n) (w : World) (hb : b < w.heap.size) (c0 : w.cell? ⟨b, 0, none⟩ = some (.int .u64 lo)) (c1 : w.cell? ⟨b, 1, none⟩ = some (.int .u64 hi)) :
    Calls Try.prog 45 #[.pointer (some ⟨b, 0, none⟩)] w fun e w' => e = .returned (.tuple #[.int .i64 (if -9223372036854775808 ≤ n ∧ n < 9223372036854775808 then n else 0), .bool (decide (-9223372036854775808 ≤ n ∧ n < 9223372036854775808))]) ∧ Below w.heap.size w w' := by
  by_cases h : -9223372036854775808 ≤ n ∧ n < 9223372036854775808
  · rw [if_pos h, decide_eq_true h]
    go_enter Try.func45, Try.ntmps45
    go_wp2_with fail
    refine (total_at b lo hi _ hb c0 c1).mono ?_
    rintro e w1 ⟨rfl, hb1⟩
    go_wp2_with fail
    refine (fit_in lo hi n r h.1 h.2 _).mono ?_
    rintro e w2 ⟨rfl, hb2⟩
    go_wp2_with fail
    go_ret2
    exact ⟨rfl, below_two hb1 hb2⟩
  · rw [if_neg h, decide_eq_false h]
    go_enter Try.func45, Try.ntmps45
    go_wp2_with fail
    refine (total_at b lo hi _ hb c0 c1).mono ?_
    rintro e w1 ⟨rfl, hb1⟩
    go_wp2_with fail
    refine (fit_out lo hi n r (by omega) _).mono ?_
    rintro e w2 ⟨rfl, hb2⟩
    go_wp2_with fail
    go_ret2
    exact ⟨rfl, below_two hb1 hb2⟩
end Go.Proofs.Ytccgbkafcbfcgaa

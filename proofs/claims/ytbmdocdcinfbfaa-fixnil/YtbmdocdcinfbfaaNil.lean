/- The statement FixNil: the walk of her Go text, out of the contracts of package fix. -/
import Derived.Test.YtbmdocdcinfbfaaWideM
namespace Go.Proofs.Ytbmdocdcinfbfaa
open Go.RowKit

set_option maxHeartbeats 400000 in
theorem fixNil_walk (v n : Int) (_hv : (Lit.int .i64 v).wf = true) (hn : (Lit.int .i64 n).wf = true) (w : World) :
    Calls Try.prog 7 #[.int .i64 v, .int .i64 n] w fun e w' => e = .returned (.bool true) ∧ Below w.heap.size w w' := by
  have n1 : n < 9223372036854775808 := by have := bounds_i64 hn; omega
  clear hn
  go_enter Try.func7, Try.ntmps7
  go_wp2_with fail
  refine (wAdd_nil v _).mono ?_
  rintro e w1 ⟨rfl, rfl⟩
  go_wp2_with fail
  refine (wTake_nil v _).mono ?_
  rintro e w1 ⟨rfl, rfl⟩
  go_wp2_with fail
  refine (wFit_nil _).mono ?_
  rintro e w1 ⟨rfl, hb1⟩
  go_wp2_with fail
  refine (wMean_nil n n1 _).mono ?_
  rintro e w2 ⟨rfl, hb2⟩
  go_wp2_with fail
  refine (wFit_at _ 0 0 0 rep_zero _ (by simp) (by simp [go_sem]) (by simp [go_sem])).mono ?_
  rintro e w3 ⟨rfl, hb3⟩
  go_wp2_with fail
  refine (awake_any _).mono ?_
  rintro e w4 ⟨rfl, hb4⟩
  go_wp2_with fail
  go_ret
  exact ⟨rfl, below_two (((below_two hb1 hb2).alloc (by have := hb1.size; have := hb2.size; omega) _).trans (hb3.mono (by have := hb1.size; have := hb2.size; simp; omega))) hb4⟩
end Go.Proofs.Ytbmdocdcinfbfaa

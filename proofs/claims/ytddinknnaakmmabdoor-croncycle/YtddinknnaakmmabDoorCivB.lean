/- Package civil and the document's answer: quotients rounded down, the days ahead of a year, the days of a year. -/
import Derived.Test.YtddinknnaakmmabDoorCivA
namespace Go.Proofs.YtddinknnaakmmabDoor
open Go.RowKit

theorem floor_pos (n d q r : Int) (hd : 0 < d) (e : d * q + r = n) (h0 : 0 ≤ r) (h1 : r < d) : n / d = q ∧ n % d = r :=
  (Int.ediv_emod_unique hd).2 ⟨by omega, h0, h1⟩
theorem floor_neg (n d q r : Int) (hd : 0 < d) (e : d * q + r = n) (h0 : r < 0) (h1 : -d < r) : n / d = q - 1 ∧ n % d = r + d :=
  (Int.ediv_emod_unique hd).2 ⟨by rw [Int.mul_sub]; omega, by omega, by omega⟩
theorem tmod_range (n d : Int) (hd : 0 < d) : -d < n.tmod d ∧ n.tmod d < d := by
  have h1 := Int.tmod_lt_of_pos n hd
  have h2 := Int.tmod_lt_of_pos (-n) hd
  rw [Int.neg_tmod] at h2
  omega
theorem tdiv_range (n d : Int) (hd : 1 < d) (n0 : -9223372036854775808 ≤ n) (n1 : n < 9223372036854775808) : -4611686018427387904 ≤ n.tdiv d ∧ n.tdiv d < 4611686018427387904 := by
  by_cases h : 0 ≤ n
  · rw [Int.tdiv_eq_ediv_of_nonneg h]
    have h1 := Int.ediv_lt_of_lt_mul (a := n) (b := 4611686018427387904) (c := d) (by omega) (by omega)
    have h2 := Int.ediv_nonneg h (show 0 ≤ d by omega)
    omega
  · have e : n.tdiv d = -((-n) / d) := by rw [← Int.tdiv_eq_ediv_of_nonneg (show 0 ≤ -n by omega), Int.neg_tdiv, Int.neg_neg]
    have h1 := Int.ediv_le_of_le_mul (a := -n) (b := 4611686018427387904) (c := d) (by omega) (by omega)
    have h2 := Int.ediv_nonneg (show 0 ≤ -n by omega) (show 0 ≤ d by omega)
    rw [e]
    omega
theorem world_same (w : World) : Below w.heap.size w w := Below.refl _ _

set_option maxHeartbeats 400000 in
theorem split_any (n d : Int) (n0 : -9223372036854775808 ≤ n) (n1 : n < 9223372036854775808) (d0 : 1 < d) (d1 : d < 1000000) (w : World) :
    Calls Tryd.prog 18 #[.int .i64 n, .int .i64 d] w fun e w' => e = .returned (.tuple #[.int .i64 (n / d), .int .i64 (n % d)]) ∧ Below w.heap.size w w' := by
  have e := Int.mul_tdiv_add_tmod n d
  have r := tmod_range n d (by omega)
  have q := tdiv_range n d d0 n0 n1
  have z : (d == 0) = false := beq_eq_false_iff_ne.2 (by omega)
  have z1 : (d == -1) = false := beq_eq_false_iff_ne.2 (by omega)
  have wr : IntKind.i64.wrap (n.tdiv d) = n.tdiv d := by rw [IntKind.wrap_i64]; omega
  by_cases h : n.tmod d < 0
  · rw [(floor_neg n d _ _ (by omega) e h r.1).1, (floor_neg n d _ _ (by omega) e h r.1).2]
    have E : Hid _ := e
    clear e
    obtain ⟨r0, r1⟩ := r
    obtain ⟨q0, q1⟩ := q
    go_enter Tryd.func18, Tryd.ntmps18
    go_wp2_with fail
    go_quiet (fail)
    go_wp2_with fail
    go_ret2
    exact ⟨rfl, ⟨rfl, rfl, rfl, Nat.le_refl _, fun _ _ => rfl⟩⟩
  · rw [(floor_pos n d _ _ (by omega) e (by omega) r.2).1, (floor_pos n d _ _ (by omega) e (by omega) r.2).2]
    have E : Hid _ := e
    clear e
    obtain ⟨r0, r1⟩ := r
    obtain ⟨q0, q1⟩ := q
    go_enter Tryd.func18, Tryd.ntmps18
    go_wp2_with fail
    go_quiet (fail)
    go_wp2_with fail
    go_ret2
    exact ⟨rfl, ⟨rfl, rfl, rfl, Nat.le_refl _, fun _ _ => rfl⟩⟩

set_option maxHeartbeats 400000 in
theorem ahead_any (y : Int) (y0 : 0 ≤ y) (y1 : y ≤ 1000) (w : World) :
    Calls Tryd.prog 28 #[.int .i64 y] w fun e w' => e = .returned (.int .i64 (ahead y)) ∧ w = w' := by
  have e : ahead y = y * 365 + (y + 3).tdiv 4 - (y + 99).tdiv 100 + (y + 399).tdiv 400 := by
    rw [Int.tdiv_eq_ediv_of_nonneg (by omega), Int.tdiv_eq_ediv_of_nonneg (by omega), Int.tdiv_eq_ediv_of_nonneg (by omega)]
    rfl
  rw [e]
  clear e
  have h1 : 0 ≤ (y + 3).tdiv 4 ∧ (y + 3).tdiv 4 ≤ 10000 := by rw [Int.tdiv_eq_ediv_of_nonneg (by omega)]; omega
  have h2 : 0 ≤ (y + 99).tdiv 100 ∧ (y + 99).tdiv 100 ≤ 10000 := by rw [Int.tdiv_eq_ediv_of_nonneg (by omega)]; omega
  have h3 : 0 ≤ (y + 399).tdiv 400 ∧ (y + 399).tdiv 400 ≤ 10000 := by rw [Int.tdiv_eq_ediv_of_nonneg (by omega)]; omega
  obtain ⟨a1, b1⟩ := h1
  obtain ⟨a2, b2⟩ := h2
  obtain ⟨a3, b3⟩ := h3
  go_enter Tryd.func28, Tryd.ntmps28
  go_wp2_with fail
  go_ret
  simp

end Go.Proofs.YtddinknnaakmmabDoor

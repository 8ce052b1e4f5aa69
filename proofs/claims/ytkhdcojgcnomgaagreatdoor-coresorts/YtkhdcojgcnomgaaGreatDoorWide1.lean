/- The inner functions of package fix on two words (widen, plus, minus, below0), each held against the whole number that two words stand for. -/
import Derived.Test.YtkhdcojgcnomgaaGreatDoorChecked
import Derived.WalkKit
import Derived.WalkSpells
import Derived.Below
import Derived.Shelf.Spec.BitsCarry
import Derived.Deep.RegionHeld3
namespace Go.Proofs.YtkhdcojgcnomgaaGreatDoor
open Go.RowKit

/-- Two words, the low one first, stand for the number n (two's complement, 128 bits). -/
structure Rep (lo hi n : Int) : Prop where
  lo0 : 0 ≤ lo
  lo1 : lo < 18446744073709551616
  hi0 : 0 ≤ hi
  hi1 : hi < 18446744073709551616
  is : (hi < 9223372036854775808 ∧ n = lo + 18446744073709551616 * hi) ∨ (9223372036854775808 ≤ hi ∧ n = lo + 18446744073709551616 * hi - 340282366920938463463374607431768211456)

theorem add64 (x y c : Int) (hx : 0 ≤ x) (hy : 0 ≤ y) (hc0 : 0 ≤ c) (hc : c ≤ 1) (w : World) : (callFunc 176 #[.int .u64 x, .int .u64 y, .int .u64 c]).run Tryz.prog w =
    .ok (.value (.tuple #[.int .u64 ((x + y + c) % 18446744073709551616), .int .u64 ((x + y + c) / 18446744073709551616)])) w := by
  rw [run_callFunc_extern Tryz.func176 (by kernel_rfl) (by kernel_rfl) (by kernel_rfl) (e := add64Entry) (by kernel_rfl), run_add64 x y c hx hy hc0 hc]
  rfl
theorem sub64 (x y b : Int) (hx : 0 ≤ x) (hy : 0 ≤ y) (hy' : y < 18446744073709551616) (hb0 : 0 ≤ b) (hb : b ≤ 1) (w : World) : (callFunc 177 #[.int .u64 x, .int .u64 y, .int .u64 b]).run Tryz.prog w =
    .ok (.value (.tuple #[.int .u64 ((x - y - b) % 18446744073709551616), .int .u64 (if x < y + b then 1 else 0)])) w := by
  obtain ⟨x, rfl⟩ := Int.eq_ofNat_of_zero_le hx
  obtain ⟨y, rfl⟩ := Int.eq_ofNat_of_zero_le hy
  obtain ⟨b, rfl⟩ := Int.eq_ofNat_of_zero_le hb0
  have e1 : (((x + 18446744073709551616 - y - b) % 18446744073709551616 : Nat) : Int) = ((x : Int) - y - b) % 18446744073709551616 := by omega
  have e2 : ((if x < y + b then 1 else 0 : Nat) : Int) = if (x : Int) < y + b then 1 else 0 := by split <;> split <;> omega
  rw [← e1, ← e2]
  rw [run_callFunc_extern Tryz.func177 (by kernel_rfl) (by kernel_rfl) (by kernel_rfl) (e := sub64Entry) (by kernel_rfl), run_sub64 x y b (by omega)]
  rfl
theorem add64_0 (x y : Int) (hx : 0 ≤ x) (hy : 0 ≤ y) (w : World) : (callFunc 176 #[.int .u64 x, .int .u64 y, .int .u64 0]).run Tryz.prog w =
    .ok (.value (.tuple #[.int .u64 ((x + y) % 18446744073709551616), .int .u64 ((x + y) / 18446744073709551616)])) w := by
  simpa using add64 x y 0 hx hy (Int.le_refl 0) (by decide) w

/-- The borrow, under a name. -/
def bor (x y : Int) : Int := if x < y then 1 else 0
theorem bor0 (x y : Int) : 0 ≤ bor x y := by unfold bor; split <;> decide
theorem bor1 (x y : Int) : bor x y ≤ 1 := by unfold bor; split <;> decide
theorem sub64_0 (x y : Int) (hx : 0 ≤ x) (hy : 0 ≤ y) (hy' : y < 18446744073709551616) (w : World) : (callFunc 177 #[.int .u64 x, .int .u64 y, .int .u64 0]).run Tryz.prog w =
    .ok (.value (.tuple #[.int .u64 ((x - y) % 18446744073709551616), .int .u64 (bor x y)])) w := by
  simpa [bor] using sub64 x y 0 hx hy hy' (Int.le_refl 0) (by decide) w
theorem sub64_b (x y b : Int) (hx : 0 ≤ x) (hy : 0 ≤ y) (hy' : y < 18446744073709551616) (hb0 : 0 ≤ b) (hb : b ≤ 1) (w : World) : (callFunc 177 #[.int .u64 x, .int .u64 y, .int .u64 b]).run Tryz.prog w =
    .ok (.value (.tuple #[.int .u64 ((x - y - b) % 18446744073709551616), .int .u64 (bor x (y + b))])) w := by
  simpa [bor] using sub64 x y b hx hy hy' hb0 hb w

theorem rep_plus (al ah bl bh a b : Int) (ra : Rep al ah a) (rb : Rep bl bh b) (h0 : -170141183460469231731687303715884105728 ≤ a + b) (h1 : a + b < 170141183460469231731687303715884105728) :
    Rep ((al + bl) % 18446744073709551616) ((ah + bh + (al + bl) / 18446744073709551616) % 18446744073709551616) (a + b) := by
  obtain ⟨x1, x2, x3, x4, x5⟩ := ra
  obtain ⟨y1, y2, y3, y4, y5⟩ := rb
  refine ⟨by omega, by omega, by omega, by omega, ?_⟩
  rcases x5 with ⟨_, rfl⟩ | ⟨_, rfl⟩ <;> rcases y5 with ⟨_, rfl⟩ | ⟨_, rfl⟩ <;> omega
theorem rep_minus (al ah bl bh a b : Int) (ra : Rep al ah a) (rb : Rep bl bh b) (h0 : -170141183460469231731687303715884105728 ≤ a - b) (h1 : a - b < 170141183460469231731687303715884105728) :
    Rep ((al - bl) % 18446744073709551616) ((ah - bh - bor al bl) % 18446744073709551616) (a - b) := by
  obtain ⟨x1, x2, x3, x4, x5⟩ := ra
  obtain ⟨y1, y2, y3, y4, y5⟩ := rb
  unfold bor
  refine ⟨by omega, by omega, by split <;> omega, by split <;> omega, ?_⟩
  rcases x5 with ⟨_, rfl⟩ | ⟨_, rfl⟩ <;> rcases y5 with ⟨_, rfl⟩ | ⟨_, rfl⟩ <;> split <;> omega

/-- Behind a call that turned nothing that was there: all old cells, all old marks. -/
theorem bcell {W w1 : World} (hb : Below W.heap.size W w1) : (∀ b o, b < W.heap.size → w1.cell? ⟨b, o, none⟩ = W.cell? ⟨b, o, none⟩) ∧ (∀ b o, b < W.heap.size → w1.frozen? ⟨b, o, none⟩ = W.frozen? ⟨b, o, none⟩) :=
  ⟨fun b o h => hb.cell (p := ⟨b, o, none⟩) h, fun b o h => hb.frozen (p := ⟨b, o, none⟩) h⟩

theorem below_two {w w1 w2 : World} (h : Below w.heap.size w w1) (k : Below w1.heap.size w1 w2) : Below w.heap.size w w2 := h.trans (k.mono h.size)
/-- What a function of package fix that makes words answers: two words that stand for n; of what lay in memory nothing has turned. -/
def Gives (w : World) (n : Int) (e : Ending) (w' : World) : Prop := ∃ lo hi, e = .returned (.agg #[.int .u64 lo, .int .u64 hi]) ∧ Rep lo hi n ∧ Below w.heap.size w w'

set_option maxHeartbeats 400000 in
theorem plus_any (al ah bl bh a b : Int) (ra : Rep al ah a) (rb : Rep bl bh b) (h0 : -170141183460469231731687303715884105728 ≤ a + b) (h1 : a + b < 170141183460469231731687303715884105728) (w : World) :
    Calls Tryz.prog 156 #[.agg #[.int .u64 al, .int .u64 ah], .agg #[.int .u64 bl, .int .u64 bh]] w (Gives w (a + b)) := by
  have r := rep_plus al ah bl bh a b ra rb h0 h1
  obtain ⟨x1, x2, x3, x4, _⟩ := ra
  obtain ⟨y1, y2, y3, y4, _⟩ := rb
  have k0 : 0 ≤ (al + bl) / 18446744073709551616 := by omega
  have k1 : (al + bl) / 18446744073709551616 ≤ 1 := by omega
  go_enter Tryz.func156, Tryz.ntmps156
  go_wp2_with (first | simp only [add64_0 al bl x1 y1] | simp only [add64 ah bh _ x3 y3 k0 k1])
  refine bodyPost_ret (v := .agg #[.int .u64 ((al + bl) % 18446744073709551616), .int .u64 ((ah + bh + (al + bl) / 18446744073709551616) % 18446744073709551616)]) (by simp [results, Tryz.results156, go_sem]) rfl ⟨_, _, rfl, r, ?_⟩
  exact (((Below.refl _ _).alloc (Nat.le_refl _) _).alloc (by simp) _).alloc (by simp; omega) _

set_option maxHeartbeats 400000 in
theorem minus_any (al ah bl bh a b : Int) (ra : Rep al ah a) (rb : Rep bl bh b) (h0 : -170141183460469231731687303715884105728 ≤ a - b) (h1 : a - b < 170141183460469231731687303715884105728) (w : World) :
    Calls Tryz.prog 158 #[.agg #[.int .u64 al, .int .u64 ah], .agg #[.int .u64 bl, .int .u64 bh]] w (Gives w (a - b)) := by
  have r := rep_minus al ah bl bh a b ra rb h0 h1
  obtain ⟨x1, x2, x3, x4, _⟩ := ra
  obtain ⟨y1, y2, y3, y4, _⟩ := rb
  have k0 : 0 ≤ bor al bl := bor0 _ _
  have k1 : bor al bl ≤ 1 := bor1 _ _
  go_enter Tryz.func158, Tryz.ntmps158
  go_wp2_with (first | simp only [sub64_0 al bl x1 y1 y2] | simp only [sub64_b ah bh _ x3 y3 y4 k0 k1])
  refine bodyPost_ret (v := .agg #[.int .u64 ((al - bl) % 18446744073709551616), .int .u64 ((ah - bh - bor al bl) % 18446744073709551616)]) (by simp [results, Tryz.results158, go_sem]) rfl ⟨_, _, rfl, r, ?_⟩
  exact (((Below.refl _ _).alloc (Nat.le_refl _) _).alloc (by simp) _).alloc (by simp; omega) _

theorem rep_widen (v : Int) (h0 : -9223372036854775808 ≤ v) (h1 : v < 9223372036854775808) : Rep (v % 18446744073709551616) (v / 9223372036854775808 % 18446744073709551616) v := by
  refine ⟨by omega, by omega, by omega, by omega, ?_⟩
  by_cases h : v < 0
  · exact .inr (by omega)
  · exact .inl (by omega)
theorem Rep.unique {lo hi lo' hi' n : Int} (h : Rep lo hi n) (k : Rep lo' hi' n) : lo = lo' ∧ hi = hi' := by
  obtain ⟨x1, x2, x3, x4, x5⟩ := h
  obtain ⟨y1, y2, y3, y4, y5⟩ := k
  rcases x5 with ⟨_, x5⟩ | ⟨_, x5⟩ <;> rcases y5 with ⟨_, y5⟩ | ⟨_, y5⟩ <;> omega
theorem Rep.bounds {lo hi n : Int} (h : Rep lo hi n) : -170141183460469231731687303715884105728 ≤ n ∧ n < 170141183460469231731687303715884105728 := by
  obtain ⟨x1, x2, x3, x4, x5⟩ := h
  rcases x5 with ⟨_, x5⟩ | ⟨_, x5⟩ <;> omega

set_option maxHeartbeats 400000 in
/-- widen, its answer written out. -/
theorem widen_at (v : Int) (w : World) :
    Calls Tryz.prog 157 #[.int .i64 v] w fun e w' => e = .returned (.agg #[.int .u64 (v % 18446744073709551616), .int .u64 (v / 9223372036854775808 % 18446744073709551616)]) ∧ Below w.heap.size w w' := by
  have e1 : ∀ x : Int, IntKind.u64.wrap x = x % 18446744073709551616 := fun x => by rw [IntKind.wrap_u64]
  go_enter Tryz.func157, Tryz.ntmps157
  go_wp2
  refine bodyPost_ret (v := .agg #[.int .u64 (v % 18446744073709551616), .int .u64 (v / 9223372036854775808 % 18446744073709551616)]) (by simp [results, Tryz.results157, go_sem]) rfl ⟨rfl, ?_⟩
  exact (Below.refl _ _).alloc (Nat.le_refl _) _
theorem widen_any (v : Int) (h0 : -9223372036854775808 ≤ v) (h1 : v < 9223372036854775808) (w : World) :
    Calls Tryz.prog 157 #[.int .i64 v] w (Gives w v) := by
  refine (widen_at v w).mono ?_
  rintro e w' ⟨rfl, hb⟩
  exact ⟨_, _, rfl, rep_widen v h0 h1, hb⟩

theorem wrap64_neg (hi : Int) (h0 : 0 ≤ hi) (h1 : hi < 18446744073709551616) : wrap64 hi < 0 ↔ 9223372036854775808 ≤ hi := by unfold wrap64; omega
theorem Rep.neg {lo hi n : Int} (r : Rep lo hi n) : wrap64 hi < 0 ↔ n < 0 := by
  obtain ⟨x1, x2, x3, x4, x5⟩ := r
  rw [wrap64_neg hi x3 x4]
  rcases x5 with ⟨_, x5⟩ | ⟨_, x5⟩ <;> omega
theorem Rep.low {lo hi n : Int} (r : Rep lo hi n) (h0 : -9223372036854775808 ≤ n) (h1 : n < 9223372036854775808) : wrap64 lo = n := by
  obtain ⟨x1, x2, x3, x4, x5⟩ := r
  unfold wrap64
  rcases x5 with ⟨_, x5⟩ | ⟨_, x5⟩ <;> omega
theorem Rep.high {lo hi n : Int} (r : Rep lo hi n) (h : n < -9223372036854775808 ∨ 9223372036854775808 ≤ n) : wrap64 lo / 9223372036854775808 % 18446744073709551616 ≠ hi := by
  obtain ⟨x1, x2, x3, x4, x5⟩ := r
  unfold wrap64
  rcases x5 with ⟨_, x5⟩ | ⟨_, x5⟩ <;> omega
theorem wrap64_mod (lo : Int) (h0 : 0 ≤ lo) (h1 : lo < 18446744073709551616) : wrap64 lo % 18446744073709551616 = lo := by unfold wrap64; omega

set_option maxHeartbeats 400000 in
theorem below0_any (lo hi n : Int) (r : Rep lo hi n) (w : World) :
    Calls Tryz.prog 175 #[.agg #[.int .u64 lo, .int .u64 hi]] w fun e w' => e = .returned (.bool (decide (n < 0))) ∧ Below w.heap.size w w' := by
  have hr : Hid (decide (wrap64 hi < 0) = decide (n < 0)) := (by rw [decide_eq_decide]; exact r.neg : decide (wrap64 hi < 0) = decide (n < 0))
  obtain ⟨x1, x2, x3, x4, x5⟩ := r
  go_enter Tryz.func175, Tryz.ntmps175
  go_wp2
  go_ret
  exact ⟨by rw [hr.out]; rfl, (Below.refl _ _).alloc (Nat.le_refl _) _⟩

/-- '==' on two pairs of words. -/
theorem eqWords (a b c d : Int) (w : World) : (Op.equalIn 10000 157 (.agg #[.int .u64 a, .int .u64 b]) (.agg #[.int .u64 c, .int .u64 d])).run Tryz.prog w = .ok (a == c && b == d) w := by
  have u3 := Tryz.underlying77
  have a3 := Tryz.isAgg77
  have z3 := Tryz.sizeOf77
  rw [show (10000 : Nat) = 9999 + 1 from rfl, Op.equalIn]
  simp only [Sem.run_bind, run_underlying Tryz.underlying157, Result.andThen_ok]
  simp only [Std.Legacy.Range.forIn_eq_forIn_range', Std.Legacy.Range.size, Nat.sub_zero, Nat.add_sub_cancel, Nat.div_one, List.range'_succ, List.range'_zero, List.forIn_cons, List.forIn_nil]
  go_simp
  by_cases h1 : a = c <;> by_cases h2 : b = d <;> simp [h1, h2]

set_option maxHeartbeats 400000 in
theorem fit_in (lo hi n : Int) (r : Rep lo hi n) (h0 : -9223372036854775808 ≤ n) (h1 : n < 9223372036854775808) (w : World) :
    Calls Tryz.prog 174 #[.agg #[.int .u64 lo, .int .u64 hi]] w fun e w' => e = .returned (.tuple #[.int .i64 n, .bool true]) ∧ Below w.heap.size w w' := by
  have e1 := r.low h0 h1
  obtain ⟨e2, e3⟩ := Rep.unique (rep_widen n h0 h1) r
  have hq := eqWords
  go_enter Tryz.func174, Tryz.ntmps174
  go_wp2
  go_region_held3 (fun w' => w'.cell? ⟨w.heap.size, 0, none⟩ = some (.int .u64 lo) ∧ w'.cell? ⟨w.heap.size, 1, none⟩ = some (.int .u64 hi)) (simp [go_sem, *])
    (first | (go_at_call 157; refine (widen_at _ _).mono ?_; rintro e w' ⟨rfl, hb⟩; obtain ⟨hc, hf⟩ := bcell hb))
  go_wp2
  go_ret2
  exact ⟨rfl, (((Below.refl _ _).alloc (Nat.le_refl _) _).drew).trans (hb.mono (by simp))⟩

set_option maxHeartbeats 400000 in
theorem fit_out (lo hi n : Int) (r : Rep lo hi n) (h : n < -9223372036854775808 ∨ 9223372036854775808 ≤ n) (w : World) :
    Calls Tryz.prog 174 #[.agg #[.int .u64 lo, .int .u64 hi]] w fun e w' => e = .returned (.tuple #[.int .i64 0, .bool false]) ∧ Below w.heap.size w w' := by
  have e1 := wrap64_mod lo r.lo0 r.lo1
  have e2 : (wrap64 lo / 9223372036854775808 % 18446744073709551616 == hi) = false := beq_eq_false_iff_ne.2 (r.high h)
  have hq := eqWords
  clear h
  go_enter Tryz.func174, Tryz.ntmps174
  go_wp2
  go_region_held3 (fun w' => w'.cell? ⟨w.heap.size, 0, none⟩ = some (.int .u64 lo) ∧ w'.cell? ⟨w.heap.size, 1, none⟩ = some (.int .u64 hi)) (simp [go_sem, *])
    (first | (go_at_call 157; refine (widen_at _ _).mono ?_; rintro e w' ⟨rfl, hb⟩; obtain ⟨hc, hf⟩ := bcell hb))
  go_wp2
  go_ret2
  exact ⟨rfl, (((Below.refl _ _).alloc (Nat.le_refl _) _).drew).trans (hb.mono (by simp))⟩

/-- The nearest int64. -/
def held (n : Int) : Int := if n < -9223372036854775808 then -9223372036854775808 else if 9223372036854775807 < n then 9223372036854775807 else n
theorem held_in (n : Int) (h0 : -9223372036854775808 ≤ n) (h1 : n < 9223372036854775808) : held n = n := by unfold held; rw [if_neg (by omega), if_neg (by omega)]
theorem held_lo (n : Int) (h : n < -9223372036854775808) : held n = -9223372036854775808 := by unfold held; rw [if_pos h]
theorem held_hi (n : Int) (h : 9223372036854775808 ≤ n) : held n = 9223372036854775807 := by unfold held; rw [if_neg (by omega), if_pos (by omega)]
theorem held_bd (n : Int) : -9223372036854775808 ≤ held n ∧ held n ≤ 9223372036854775807 := by unfold held; split <;> (try split) <;> omega
theorem ret_int {k : IntKind} {a b : Int} (h : a = b) : Ending.returned (.int k a) = .returned (.int k b) := by rw [h]

set_option maxHeartbeats 400000 in
theorem hold_any (lo hi n : Int) (r : Rep lo hi n) (w : World) :
    Calls Tryz.prog 155 #[.agg #[.int .u64 lo, .int .u64 hi]] w fun e w' => e = .returned (.int .i64 (held n)) ∧ Below w.heap.size w w' := by
  by_cases h : -9223372036854775808 ≤ n ∧ n < 9223372036854775808
  · rw [held_in n h.1 h.2]
    go_enter Tryz.func155, Tryz.ntmps155
    go_wp2_with (go_at_call 174; refine (fit_in lo hi n r h.1 h.2 _).mono ?_; rintro e w' ⟨rfl, hb⟩)
    go_ret
    exact ⟨rfl, ((Below.refl _ _).alloc (Nat.le_refl _) _).trans (hb.mono (by simp))⟩
  by_cases hn : n < 0
  · have h' : n < -9223372036854775808 := by omega
    have hd : decide (n < 0) = true := by simpa using hn
    rw [held_lo n h']
    go_enter Tryz.func155, Tryz.ntmps155
    go_wp2_with (first | (go_at_call 174; refine (fit_out lo hi n r (.inl h') _).mono ?_; rintro e w' ⟨rfl, hb⟩; obtain ⟨hc, hf⟩ := bcell hb) | (go_at_call 175; refine (below0_any lo hi n r _).mono ?_; rintro e w2 ⟨rfl, hb2⟩))
    go_ret
    exact ⟨rfl, (((Below.refl _ _).alloc (Nat.le_refl _) _).trans (hb.mono (by simp))).trans (hb2.mono (by have := hb.size; simp at this; omega))⟩
  · have h' : 9223372036854775808 ≤ n := by omega
    have hd : decide (n < 0) = false := by simpa using hn
    rw [held_hi n h']
    go_enter Tryz.func155, Tryz.ntmps155
    go_wp2_with (first | (go_at_call 174; refine (fit_out lo hi n r (.inr h') _).mono ?_; rintro e w' ⟨rfl, hb⟩; obtain ⟨hc, hf⟩ := bcell hb) | (go_at_call 175; refine (below0_any lo hi n r _).mono ?_; rintro e w2 ⟨rfl, hb2⟩))
    go_ret
    exact ⟨rfl, (((Below.refl _ _).alloc (Nat.le_refl _) _).trans (hb.mono (by simp))).trans (hb2.mono (by have := hb.size; simp at this; omega))⟩
end Go.Proofs.YtkhdcojgcnomgaaGreatDoor

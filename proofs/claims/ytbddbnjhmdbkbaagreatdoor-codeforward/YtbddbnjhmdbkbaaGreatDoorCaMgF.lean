import Derived.Test.YtbddbnjhmdbkbaaGreatDoorChecked
import Derived.WalkKit
import Derived.WalkSpells
import Derived.Below
import Derived.Shelf.Spec.BitsCarry
import Derived.Deep.RegionHeld3
import Derived.Laws.MathBits
import Derived.BigQuiet
import Derived.Laws.Bits64b
section
namespace Go.Proofs.YtbddbnjhmdbkbaaGreatDoor
open Go.RowKit

/-- Two words, the low one first, stand for the number n (two's complement, 128 bits). -/
structure Rep (lo hi n : Int) : Prop where
  lo0 : 0 ≤ lo
  lo1 : lo < 18446744073709551616
  hi0 : 0 ≤ hi
  hi1 : hi < 18446744073709551616
  is : (hi < 9223372036854775808 ∧ n = lo + 18446744073709551616 * hi) ∨ (9223372036854775808 ≤ hi ∧ n = lo + 18446744073709551616 * hi - 340282366920938463463374607431768211456)

theorem add64 (x y c : Int) (hx : 0 ≤ x) (hy : 0 ≤ y) (hc0 : 0 ≤ c) (hc : c ≤ 1) (w : World) : (callFunc 265 #[.int .u64 x, .int .u64 y, .int .u64 c]).run Tryz.prog w =
    .ok (.value (.tuple #[.int .u64 ((x + y + c) % 18446744073709551616), .int .u64 ((x + y + c) / 18446744073709551616)])) w := by
  rw [run_callFunc_extern Tryz.func265 (by kernel_rfl) (by kernel_rfl) (by kernel_rfl) (e := add64Entry) (by kernel_rfl), run_add64 x y c hx hy hc0 hc]
  rfl
theorem sub64 (x y b : Int) (hx : 0 ≤ x) (hy : 0 ≤ y) (hy' : y < 18446744073709551616) (hb0 : 0 ≤ b) (hb : b ≤ 1) (w : World) : (callFunc 266 #[.int .u64 x, .int .u64 y, .int .u64 b]).run Tryz.prog w =
    .ok (.value (.tuple #[.int .u64 ((x - y - b) % 18446744073709551616), .int .u64 (if x < y + b then 1 else 0)])) w := by
  obtain ⟨x, rfl⟩ := Int.eq_ofNat_of_zero_le hx
  obtain ⟨y, rfl⟩ := Int.eq_ofNat_of_zero_le hy
  obtain ⟨b, rfl⟩ := Int.eq_ofNat_of_zero_le hb0
  have e1 : (((x + 18446744073709551616 - y - b) % 18446744073709551616 : Nat) : Int) = ((x : Int) - y - b) % 18446744073709551616 := by omega
  have e2 : ((if x < y + b then 1 else 0 : Nat) : Int) = if (x : Int) < y + b then 1 else 0 := by split <;> split <;> omega
  rw [← e1, ← e2]
  rw [run_callFunc_extern Tryz.func266 (by kernel_rfl) (by kernel_rfl) (by kernel_rfl) (e := sub64Entry) (by kernel_rfl), run_sub64 x y b (by omega)]
  rfl
theorem add64_0 (x y : Int) (hx : 0 ≤ x) (hy : 0 ≤ y) (w : World) : (callFunc 265 #[.int .u64 x, .int .u64 y, .int .u64 0]).run Tryz.prog w =
    .ok (.value (.tuple #[.int .u64 ((x + y) % 18446744073709551616), .int .u64 ((x + y) / 18446744073709551616)])) w := by
  simpa using add64 x y 0 hx hy (Int.le_refl 0) (by decide) w

/-- The borrow, under a name. -/
def bor (x y : Int) : Int := if x < y then 1 else 0
theorem bor0 (x y : Int) : 0 ≤ bor x y := by unfold bor; split <;> decide
theorem bor1 (x y : Int) : bor x y ≤ 1 := by unfold bor; split <;> decide
theorem sub64_0 (x y : Int) (hx : 0 ≤ x) (hy : 0 ≤ y) (hy' : y < 18446744073709551616) (w : World) : (callFunc 266 #[.int .u64 x, .int .u64 y, .int .u64 0]).run Tryz.prog w =
    .ok (.value (.tuple #[.int .u64 ((x - y) % 18446744073709551616), .int .u64 (bor x y)])) w := by
  simpa [bor] using sub64 x y 0 hx hy hy' (Int.le_refl 0) (by decide) w
theorem sub64_b (x y b : Int) (hx : 0 ≤ x) (hy : 0 ≤ y) (hy' : y < 18446744073709551616) (hb0 : 0 ≤ b) (hb : b ≤ 1) (w : World) : (callFunc 266 #[.int .u64 x, .int .u64 y, .int .u64 b]).run Tryz.prog w =
    .ok (.value (.tuple #[.int .u64 ((x - y - b) % 18446744073709551616), .int .u64 (bor x (y + b))])) w := by
  simpa [bor] using sub64 x y b hx hy hy' hb0 hb w

theorem rep_plus (al ah bl bh a b : Int) (ra : Rep al ah a) (rb : Rep bl bh b) (h0 : -170141183460469231731687303715884105728 ≤ a + b) (h1 : a + b < 170141183460469231731687303715884105728) :
    Rep ((al + bl) % 18446744073709551616) ((ah + bh + (al + bl) / 18446744073709551616) % 18446744073709551616) (a + b) := by
  obtain ⟨x1, x2, x3, x4, x5⟩ := ra
  obtain ⟨y1, y2, y3, y4, y5⟩ := rb
  refine ⟨by omega, by omega, by omega, by omega, ?_⟩
  rcases x5 with ⟨_, rfl⟩ | ⟨_, rfl⟩ <;> rcases y5 with ⟨_, rfl⟩ | ⟨_, rfl⟩ <;> omega
theorem rep_minus (al ah bl bh a b : Int) (ra : Rep al ah a) (rb : Rep bl bh b) (h0 : -170141183460469231731687303715884105728 ≤ a - b) (h1 : a - b < 170141183460469231731687303715884105728) :
    Rep ((al - bl) % 18446744073709551616) ((ah - bh - bor al bl) % 18446744073709551616) (a - b) := by
  obtain ⟨x1, x2, x3, x4, x5⟩ := ra
  obtain ⟨y1, y2, y3, y4, y5⟩ := rb
  unfold bor
  refine ⟨by omega, by omega, by split <;> omega, by split <;> omega, ?_⟩
  rcases x5 with ⟨_, rfl⟩ | ⟨_, rfl⟩ <;> rcases y5 with ⟨_, rfl⟩ | ⟨_, rfl⟩ <;> split <;> omega

/-- Behind a call that turned nothing that was there: all old cells, all old marks. -/
theorem bcell {W w1 : World} (hb : Below W.heap.size W w1) : (∀ b o, b < W.heap.size → w1.cell? ⟨b, o, none⟩ = W.cell? ⟨b, o, none⟩) ∧ (∀ b o, b < W.heap.size → w1.frozen? ⟨b, o, none⟩ = W.frozen? ⟨b, o, none⟩) :=
  ⟨fun b o h => hb.cell (p := ⟨b, o, none⟩) h, fun b o h => hb.frozen (p := ⟨b, o, none⟩) h⟩

theorem below_two {w w1 w2 : World} (h : Below w.heap.size w w1) (k : Below w1.heap.size w1 w2) : Below w.heap.size w w2 := h.trans (k.mono h.size)
/-- What a function of package fix that makes words answers: two words that stand for n; of what lay in memory nothing has turned. -/
def Gives (w : World) (n : Int) (e : Ending) (w' : World) : Prop := ∃ lo hi, e = .returned (.agg #[.int .u64 lo, .int .u64 hi]) ∧ Rep lo hi n ∧ Below w.heap.size w w'

set_option maxHeartbeats 400000 in
theorem plus_any (al ah bl bh a b : Int) (ra : Rep al ah a) (rb : Rep bl bh b) (h0 : -170141183460469231731687303715884105728 ≤ a + b) (h1 : a + b < 170141183460469231731687303715884105728) (w : World) :
    Calls Tryz.prog 225 #[.agg #[.int .u64 al, .int .u64 ah], .agg #[.int .u64 bl, .int .u64 bh]] w (Gives w (a + b)) := by
  have r := rep_plus al ah bl bh a b ra rb h0 h1
  obtain ⟨x1, x2, x3, x4, _⟩ := ra
  obtain ⟨y1, y2, y3, y4, _⟩ := rb
  have k0 : 0 ≤ (al + bl) / 18446744073709551616 := by omega
  have k1 : (al + bl) / 18446744073709551616 ≤ 1 := by omega
  go_enter Tryz.func225, Tryz.ntmps225
  go_wp2_with (first | simp only [add64_0 al bl x1 y1] | simp only [add64 ah bh _ x3 y3 k0 k1])
  refine bodyPost_ret (v := .agg #[.int .u64 ((al + bl) % 18446744073709551616), .int .u64 ((ah + bh + (al + bl) / 18446744073709551616) % 18446744073709551616)]) (by simp [results, Tryz.results225, go_sem]) rfl ⟨_, _, rfl, r, ?_⟩
  exact (((Below.refl _ _).alloc (Nat.le_refl _) _).alloc (by simp) _).alloc (by simp; omega) _

set_option maxHeartbeats 400000 in
theorem minus_any (al ah bl bh a b : Int) (ra : Rep al ah a) (rb : Rep bl bh b) (h0 : -170141183460469231731687303715884105728 ≤ a - b) (h1 : a - b < 170141183460469231731687303715884105728) (w : World) :
    Calls Tryz.prog 227 #[.agg #[.int .u64 al, .int .u64 ah], .agg #[.int .u64 bl, .int .u64 bh]] w (Gives w (a - b)) := by
  have r := rep_minus al ah bl bh a b ra rb h0 h1
  obtain ⟨x1, x2, x3, x4, _⟩ := ra
  obtain ⟨y1, y2, y3, y4, _⟩ := rb
  have k0 : 0 ≤ bor al bl := bor0 _ _
  have k1 : bor al bl ≤ 1 := bor1 _ _
  go_enter Tryz.func227, Tryz.ntmps227
  go_wp2_with (first | simp only [sub64_0 al bl x1 y1 y2] | simp only [sub64_b ah bh _ x3 y3 y4 k0 k1])
  refine bodyPost_ret (v := .agg #[.int .u64 ((al - bl) % 18446744073709551616), .int .u64 ((ah - bh - bor al bl) % 18446744073709551616)]) (by simp [results, Tryz.results227, go_sem]) rfl ⟨_, _, rfl, r, ?_⟩
  exact (((Below.refl _ _).alloc (Nat.le_refl _) _).alloc (by simp) _).alloc (by simp; omega) _

theorem rep_widen (v : Int) (h0 : -9223372036854775808 ≤ v) (h1 : v < 9223372036854775808) : Rep (v % 18446744073709551616) (v / 9223372036854775808 % 18446744073709551616) v := by
  refine ⟨by omega, by omega, by omega, by omega, ?_⟩
  by_cases h : v < 0
  · exact .inr (by omega)
  · exact .inl (by omega)
theorem Rep.unique {lo hi lo' hi' n : Int} (h : Rep lo hi n) (k : Rep lo' hi' n) : lo = lo' ∧ hi = hi' := by
  obtain ⟨x1, x2, x3, x4, x5⟩ := h
  obtain ⟨y1, y2, y3, y4, y5⟩ := k
  rcases x5 with ⟨_, x5⟩ | ⟨_, x5⟩ <;> rcases y5 with ⟨_, y5⟩ | ⟨_, y5⟩ <;> omega
theorem Rep.bounds {lo hi n : Int} (h : Rep lo hi n) : -170141183460469231731687303715884105728 ≤ n ∧ n < 170141183460469231731687303715884105728 := by
  obtain ⟨x1, x2, x3, x4, x5⟩ := h
  rcases x5 with ⟨_, x5⟩ | ⟨_, x5⟩ <;> omega

set_option maxHeartbeats 400000 in
/-- widen, its answer written out. -/
theorem widen_at (v : Int) (w : World) :
    Calls Tryz.prog 226 #[.int .i64 v] w fun e w' => e = .returned (.agg #[.int .u64 (v % 18446744073709551616), .int .u64 (v / 9223372036854775808 % 18446744073709551616)]) ∧ Below w.heap.size w w' := by
  have e1 : ∀ x : Int, IntKind.u64.wrap x = x % 18446744073709551616 := fun x => by rw [IntKind.wrap_u64]
  go_enter Tryz.func226, Tryz.ntmps226
  go_wp2
  refine bodyPost_ret (v := .agg #[.int .u64 (v % 18446744073709551616), .int .u64 (v / 9223372036854775808 % 18446744073709551616)]) (by simp [results, Tryz.results226, go_sem]) rfl ⟨rfl, ?_⟩
  exact (Below.refl _ _).alloc (Nat.le_refl _) _
theorem widen_any (v : Int) (h0 : -9223372036854775808 ≤ v) (h1 : v < 9223372036854775808) (w : World) :
    Calls Tryz.prog 226 #[.int .i64 v] w (Gives w v) := by
  refine (widen_at v w).mono ?_
  rintro e w' ⟨rfl, hb⟩
  exact ⟨_, _, rfl, rep_widen v h0 h1, hb⟩

theorem wrap64_neg (hi : Int) (h0 : 0 ≤ hi) (h1 : hi < 18446744073709551616) : wrap64 hi < 0 ↔ 9223372036854775808 ≤ hi := by unfold wrap64; omega
theorem Rep.neg {lo hi n : Int} (r : Rep lo hi n) : wrap64 hi < 0 ↔ n < 0 := by
  obtain ⟨x1, x2, x3, x4, x5⟩ := r
  rw [wrap64_neg hi x3 x4]
  rcases x5 with ⟨_, x5⟩ | ⟨_, x5⟩ <;> omega
theorem Rep.low {lo hi n : Int} (r : Rep lo hi n) (h0 : -9223372036854775808 ≤ n) (h1 : n < 9223372036854775808) : wrap64 lo = n := by
  obtain ⟨x1, x2, x3, x4, x5⟩ := r
  unfold wrap64
  rcases x5 with ⟨_, x5⟩ | ⟨_, x5⟩ <;> omega
theorem Rep.high {lo hi n : Int} (r : Rep lo hi n) (h : n < -9223372036854775808 ∨ 9223372036854775808 ≤ n) : wrap64 lo / 9223372036854775808 % 18446744073709551616 ≠ hi := by
  obtain ⟨x1, x2, x3, x4, x5⟩ := r
  unfold wrap64
  rcases x5 with ⟨_, x5⟩ | ⟨_, x5⟩ <;> omega
theorem wrap64_mod (lo : Int) (h0 : 0 ≤ lo) (h1 : lo < 18446744073709551616) : wrap64 lo % 18446744073709551616 = lo := by unfold wrap64; omega

set_option maxHeartbeats 400000 in
theorem below0_any (lo hi n : Int) (r : Rep lo hi n) (w : World) :
    Calls Tryz.prog 264 #[.agg #[.int .u64 lo, .int .u64 hi]] w fun e w' => e = .returned (.bool (decide (n < 0))) ∧ Below w.heap.size w w' := by
  have hr : Hid (decide (wrap64 hi < 0) = decide (n < 0)) := (by rw [decide_eq_decide]; exact r.neg : decide (wrap64 hi < 0) = decide (n < 0))
  obtain ⟨x1, x2, x3, x4, x5⟩ := r
  go_enter Tryz.func264, Tryz.ntmps264
  go_wp2
  go_ret
  exact ⟨by rw [hr.out]; rfl, (Below.refl _ _).alloc (Nat.le_refl _) _⟩

/-- '==' on two pairs of words. -/
theorem eqWords (a b c d : Int) (w : World) : (Op.equalIn 10000 216 (.agg #[.int .u64 a, .int .u64 b]) (.agg #[.int .u64 c, .int .u64 d])).run Tryz.prog w = .ok (a == c && b == d) w := by
  have u3 := Tryz.underlying64
  have a3 := Tryz.isAgg64
  have z3 := Tryz.sizeOf64
  rw [show (10000 : Nat) = 9999 + 1 from rfl, Op.equalIn]
  simp only [Sem.run_bind, run_underlying Tryz.underlying216, Result.andThen_ok]
  simp only [Std.Legacy.Range.forIn_eq_forIn_range', Std.Legacy.Range.size, Nat.sub_zero, Nat.add_sub_cancel, Nat.div_one, List.range'_succ, List.range'_zero, List.forIn_cons, List.forIn_nil]
  go_simp
  by_cases h1 : a = c <;> by_cases h2 : b = d <;> simp [h1, h2]

set_option maxHeartbeats 400000 in
theorem fit_in (lo hi n : Int) (r : Rep lo hi n) (h0 : -9223372036854775808 ≤ n) (h1 : n < 9223372036854775808) (w : World) :
    Calls Tryz.prog 263 #[.agg #[.int .u64 lo, .int .u64 hi]] w fun e w' => e = .returned (.tuple #[.int .i64 n, .bool true]) ∧ Below w.heap.size w w' := by
  have e1 := r.low h0 h1
  obtain ⟨e2, e3⟩ := Rep.unique (rep_widen n h0 h1) r
  have hq := eqWords
  go_enter Tryz.func263, Tryz.ntmps263
  go_wp2
  go_region_held3 (fun w' => w'.cell? ⟨w.heap.size, 0, none⟩ = some (.int .u64 lo) ∧ w'.cell? ⟨w.heap.size, 1, none⟩ = some (.int .u64 hi)) (simp [go_sem, *])
    (first | (go_at_call 226; refine (widen_at _ _).mono ?_; rintro e w' ⟨rfl, hb⟩; obtain ⟨hc, hf⟩ := bcell hb))
  go_wp2
  go_ret2
  exact ⟨rfl, (((Below.refl _ _).alloc (Nat.le_refl _) _).drew).trans (hb.mono (by simp))⟩

set_option maxHeartbeats 400000 in
theorem fit_out (lo hi n : Int) (r : Rep lo hi n) (h : n < -9223372036854775808 ∨ 9223372036854775808 ≤ n) (w : World) :
    Calls Tryz.prog 263 #[.agg #[.int .u64 lo, .int .u64 hi]] w fun e w' => e = .returned (.tuple #[.int .i64 0, .bool false]) ∧ Below w.heap.size w w' := by
  have e1 := wrap64_mod lo r.lo0 r.lo1
  have e2 : (wrap64 lo / 9223372036854775808 % 18446744073709551616 == hi) = false := beq_eq_false_iff_ne.2 (r.high h)
  have hq := eqWords
  clear h
  go_enter Tryz.func263, Tryz.ntmps263
  go_wp2
  go_region_held3 (fun w' => w'.cell? ⟨w.heap.size, 0, none⟩ = some (.int .u64 lo) ∧ w'.cell? ⟨w.heap.size, 1, none⟩ = some (.int .u64 hi)) (simp [go_sem, *])
    (first | (go_at_call 226; refine (widen_at _ _).mono ?_; rintro e w' ⟨rfl, hb⟩; obtain ⟨hc, hf⟩ := bcell hb))
  go_wp2
  go_ret2
  exact ⟨rfl, (((Below.refl _ _).alloc (Nat.le_refl _) _).drew).trans (hb.mono (by simp))⟩

/-- The nearest int64. -/
def held (n : Int) : Int := if n < -9223372036854775808 then -9223372036854775808 else if 9223372036854775807 < n then 9223372036854775807 else n
theorem held_in (n : Int) (h0 : -9223372036854775808 ≤ n) (h1 : n < 9223372036854775808) : held n = n := by unfold held; rw [if_neg (by omega), if_neg (by omega)]
theorem held_lo (n : Int) (h : n < -9223372036854775808) : held n = -9223372036854775808 := by unfold held; rw [if_pos h]
theorem held_hi (n : Int) (h : 9223372036854775808 ≤ n) : held n = 9223372036854775807 := by unfold held; rw [if_neg (by omega), if_pos (by omega)]
theorem held_bd (n : Int) : -9223372036854775808 ≤ held n ∧ held n ≤ 9223372036854775807 := by unfold held; split <;> (try split) <;> omega
theorem ret_int {k : IntKind} {a b : Int} (h : a = b) : Ending.returned (.int k a) = .returned (.int k b) := by rw [h]

set_option maxHeartbeats 400000 in
theorem hold_any (lo hi n : Int) (r : Rep lo hi n) (w : World) :
    Calls Tryz.prog 224 #[.agg #[.int .u64 lo, .int .u64 hi]] w fun e w' => e = .returned (.int .i64 (held n)) ∧ Below w.heap.size w w' := by
  by_cases h : -9223372036854775808 ≤ n ∧ n < 9223372036854775808
  · rw [held_in n h.1 h.2]
    go_enter Tryz.func224, Tryz.ntmps224
    go_wp2_with (go_at_call 263; refine (fit_in lo hi n r h.1 h.2 _).mono ?_; rintro e w' ⟨rfl, hb⟩)
    go_ret
    exact ⟨rfl, ((Below.refl _ _).alloc (Nat.le_refl _) _).trans (hb.mono (by simp))⟩
  by_cases hn : n < 0
  · have h' : n < -9223372036854775808 := by omega
    have hd : decide (n < 0) = true := by simpa using hn
    rw [held_lo n h']
    go_enter Tryz.func224, Tryz.ntmps224
    go_wp2_with (first | (go_at_call 263; refine (fit_out lo hi n r (.inl h') _).mono ?_; rintro e w' ⟨rfl, hb⟩; obtain ⟨hc, hf⟩ := bcell hb) | (go_at_call 264; refine (below0_any lo hi n r _).mono ?_; rintro e w2 ⟨rfl, hb2⟩))
    go_ret
    exact ⟨rfl, (((Below.refl _ _).alloc (Nat.le_refl _) _).trans (hb.mono (by simp))).trans (hb2.mono (by have := hb.size; simp at this; omega))⟩
  · have h' : 9223372036854775808 ≤ n := by omega
    have hd : decide (n < 0) = false := by simpa using hn
    rw [held_hi n h']
    go_enter Tryz.func224, Tryz.ntmps224
    go_wp2_with (first | (go_at_call 263; refine (fit_out lo hi n r (.inr h') _).mono ?_; rintro e w' ⟨rfl, hb⟩; obtain ⟨hc, hf⟩ := bcell hb) | (go_at_call 264; refine (below0_any lo hi n r _).mono ?_; rintro e w2 ⟨rfl, hb2⟩))
    go_ret
    exact ⟨rfl, (((Below.refl _ _).alloc (Nat.le_refl _) _).trans (hb.mono (by simp))).trans (hb2.mono (by have := hb.size; simp at this; omega))⟩

set_option maxHeartbeats 400000 in
theorem Add_any (a b : Int) (a0 : -9223372036854775808 ≤ a) (a1 : a < 9223372036854775808) (b0 : -9223372036854775808 ≤ b) (b1 : b < 9223372036854775808) (w : World) :
    Calls Tryz.prog 155 #[.int .i64 a, .int .i64 b] w fun e w' => e = .returned (.int .i64 (held (a + b))) ∧ Below w.heap.size w w' := by
  go_enter Tryz.func155, Tryz.ntmps155
  go_wp2_with fail
  refine (widen_any a a0 a1 _).mono ?_
  rintro e w1 ⟨lo1, hi1, rfl, r1, hb1⟩
  go_wp2_with fail
  refine (widen_any b b0 b1 _).mono ?_
  rintro e w2 ⟨lo2, hi2, rfl, r2, hb2⟩
  go_wp2_with fail
  refine (plus_any lo1 hi1 lo2 hi2 a b r1 r2 (by omega) (by omega) _).mono ?_
  rintro e w3 ⟨lo3, hi3, rfl, r3, hb3⟩
  go_wp2_with fail
  refine (hold_any lo3 hi3 _ r3 _).mono ?_
  rintro e w4 ⟨rfl, hb4⟩
  go_wp2_with fail
  go_ret
  exact ⟨rfl, below_two (below_two (below_two hb1 hb2) hb3) hb4⟩

set_option maxHeartbeats 400000 in
theorem Sub_any (a b : Int) (a0 : -9223372036854775808 ≤ a) (a1 : a < 9223372036854775808) (b0 : -9223372036854775808 ≤ b) (b1 : b < 9223372036854775808) (w : World) :
    Calls Tryz.prog 156 #[.int .i64 a, .int .i64 b] w fun e w' => e = .returned (.int .i64 (held (a - b))) ∧ Below w.heap.size w w' := by
  go_enter Tryz.func156, Tryz.ntmps156
  go_wp2_with fail
  refine (widen_any a a0 a1 _).mono ?_
  rintro e w1 ⟨lo1, hi1, rfl, r1, hb1⟩
  go_wp2_with fail
  refine (widen_any b b0 b1 _).mono ?_
  rintro e w2 ⟨lo2, hi2, rfl, r2, hb2⟩
  go_wp2_with fail
  refine (minus_any lo1 hi1 lo2 hi2 a b r1 r2 (by omega) (by omega) _).mono ?_
  rintro e w3 ⟨lo3, hi3, rfl, r3, hb3⟩
  go_wp2_with fail
  refine (hold_any lo3 hi3 _ r3 _).mono ?_
  rintro e w4 ⟨rfl, hb4⟩
  go_wp2_with fail
  go_ret
  exact ⟨rfl, below_two (below_two (below_two hb1 hb2) hb3) hb4⟩

set_option maxHeartbeats 400000 in
theorem Neg_any (a : Int) (a0 : -9223372036854775808 ≤ a) (a1 : a < 9223372036854775808) (w : World) :
    Calls Tryz.prog 147 #[.int .i64 a] w fun e w' => e = .returned (.int .i64 (held (-a))) ∧ Below w.heap.size w w' := by
  go_enter Tryz.func147, Tryz.ntmps147
  go_wp2_with fail
  refine (Sub_any 0 a (by decide) (by decide) a0 a1 _).mono ?_
  rintro e w1 ⟨rfl, hb1⟩
  go_wp2_with fail
  go_ret
  exact ⟨rfl, hb1⟩

set_option maxHeartbeats 400000 in
theorem Abs_any (a : Int) (a0 : -9223372036854775808 ≤ a) (a1 : a < 9223372036854775808) (w : World) :
    Calls Tryz.prog 149 #[.int .i64 a] w fun e w' => e = .returned (.int .i64 (held a.natAbs)) ∧ Below w.heap.size w w' := by
  by_cases h : a < 0
  · go_enter Tryz.func149, Tryz.ntmps149
    go_wp2_with fail
    refine (Neg_any a a0 a1 _).mono ?_
    rintro e w1 ⟨rfl, hb1⟩
    go_wp2_with fail
    go_ret
    exact ⟨ret_int (by rw [show ((a.natAbs : Nat) : Int) = -a by omega]), hb1⟩
  · have e1 : held a.natAbs = a := by rw [show ((a.natAbs : Nat) : Int) = a by omega]; exact held_in a a0 a1
    rw [e1]
    go_enter Tryz.func149, Tryz.ntmps149
    go_wp2_with fail
    go_ret
    exact ⟨rfl, Below.refl _ _⟩

set_option maxHeartbeats 1000000 in
theorem mul64 (x y : Int) (x0 : 0 ≤ x) (x1 : x < 18446744073709551616) (y0 : 0 ≤ y) (y1 : y < 18446744073709551616) (w : World) :
    Calls Tryz.prog 269 #[.int .u64 x, .int .u64 y] w fun e w' => e = .returned (.tuple #[.int .u64 (x * y / 18446744073709551616), .int .u64 (x * y % 18446744073709551616)]) ∧ w' = w := by
  have hz : ∀ z : Int, bits .and .u64 (z % 18446744073709551616) 4294967295 = z % 18446744073709551616 % 4294967296 := fun z => and_low32 _ (by omega) (by omega)
  have hx := and_low32 x x0 x1
  have hy := and_low32 y y0 y1
  have ha := mul64_arith x y x0 x1 y0 y1
  have HZ : Hid _ := hz
  have HX : Hid _ := hx
  have HY : Hid _ := hy
  have HA : Hid _ := ha
  clear hz hx hy ha
  go_enter Tryz.func269, Tryz.ntmps269
  go_wp2
  simp only [HX.out, HY.out, IntKind.wrap_u64, HZ.out]
  rw [HA.out]
  go_ret2
  exact ⟨rfl, rfl⟩

set_option maxHeartbeats 400000 in
/-- Div64 where the high word is 0. -/
theorem div64_0 (x y : Int) (x0 : 0 ≤ x) (x1 : x < 18446744073709551616) (y0 : 0 < y) (w : World) :
    Calls Tryz.prog 268 #[.int .u64 0, .int .u64 x, .int .u64 y] w fun e w' => e = .returned (.tuple #[.int .u64 (x / y), .int .u64 (x % y)]) ∧ Below w.heap.size w w' := by
  have k1 : (y == 0) = false := beq_eq_false_iff_ne.2 (by omega)
  have k2 : ¬ y ≤ 0 := by omega
  go_enter Tryz.func268, Tryz.ntmps268
  go_wp2
  go_quiet (fail)
  go_wp2
  go_ret2
  exact ⟨rfl, ⟨rfl, rfl, rfl, Nat.le_refl _, fun _ _ => rfl⟩⟩

theorem rep_zero : Rep 0 0 0 := ⟨by decide, by decide, by decide, by decide, .inl ⟨by decide, by decide⟩⟩
/-- What 'size' answers. -/
def Sizes (w : World) (n : Int) (e : Ending) (w' : World) : Prop := ∃ lo hi, e = .returned (.tuple #[.agg #[.int .u64 lo, .int .u64 hi], .bool (decide (n < 0))]) ∧ Rep lo hi n.natAbs ∧ Below w.heap.size w w'

set_option maxHeartbeats 400000 in
theorem size_any (lo hi n : Int) (r : Rep lo hi n) (h0 : -170141183460469231731687303715884105728 < n) (w : World) :
    Calls Tryz.prog 267 #[.agg #[.int .u64 lo, .int .u64 hi]] w (Sizes w n) := by
  by_cases hn : n < 0
  · have hd : decide (n < 0) = true := by simpa using hn
    go_enter Tryz.func267, Tryz.ntmps267
    go_wp2_with fail
    refine (below0_any lo hi n r _).mono ?_
    rintro e w1 ⟨rfl, hb1⟩
    obtain ⟨hc, hf⟩ := bcell hb1
    have hz1 : w.heap.size + 1 < w1.heap.size := by have := hb1.size; simp at this; omega
    have hz0 : w.heap.size < w1.heap.size := by omega
    go_wp2_with fail
    refine (minus_any 0 0 lo hi 0 n rep_zero r (by omega) (by omega) _).mono ?_
    rintro e w2 ⟨lo2, hi2, rfl, r2, hb2⟩
    obtain ⟨hc2, hf2⟩ := bcell hb2
    go_wp2_with fail
    refine bodyPost_ret (v := .tuple #[.agg #[.int .u64 lo2, .int .u64 hi2], .bool true]) (by simp [results, Tryz.results267, go_sem, hc2, hc, hz1]) rfl ⟨lo2, hi2, by rw [hd], by rw [show ((n.natAbs : Nat) : Int) = 0 - n by omega]; exact r2, ?_⟩
    exact ((((((Below.refl _ _).alloc (Nat.le_refl _) _).alloc (by simp) _).trans (hb1.mono (by simp; omega))).trans (hb2.mono (by omega))).setCell (by simp) _).setCell (by simp) _
  · have hd : decide (n < 0) = false := by simpa using hn
    go_enter Tryz.func267, Tryz.ntmps267
    go_wp2_with fail
    refine (below0_any lo hi n r _).mono ?_
    rintro e w1 ⟨rfl, hb1⟩
    obtain ⟨hc, hf⟩ := bcell hb1
    have hz1 : w.heap.size + 1 < w1.heap.size := by have := hb1.size; simp at this; omega
    have hz0 : w.heap.size < w1.heap.size := by omega
    go_wp2_with fail
    refine bodyPost_ret (v := .tuple #[.agg #[.int .u64 lo, .int .u64 hi], .bool false]) (by simp [results, Tryz.results267, go_sem, hc]) rfl ⟨lo, hi, by rw [hd], by rw [show ((n.natAbs : Nat) : Int) = n by omega]; exact r, ?_⟩
    exact (((((Below.refl _ _).alloc (Nat.le_refl _) _).alloc (by simp) _).trans (hb1.mono (by simp; omega))).setCell (by simp) _).setCell (by simp) _

theorem prod_bd (a b : Int) (a0 : -9223372036854775808 ≤ a) (a1 : a < 9223372036854775808) (b0 : -9223372036854775808 ≤ b) (b1 : b < 9223372036854775808) :
    -85070591730234615865843651857942052864 ≤ a * b ∧ a * b ≤ 85070591730234615865843651857942052864 := by
  have h1 : (a.natAbs * b.natAbs : Nat) ≤ 9223372036854775808 * 9223372036854775808 := Nat.mul_le_mul (by omega) (by omega)
  rw [← Int.natAbs_mul] at h1
  omega
theorem mul_shift (a b : Int) : (a + 18446744073709551616) * (b + 18446744073709551616) = a * b + 18446744073709551616 * a + 18446744073709551616 * b + 340282366920938463463374607431768211456 := by grind
theorem mul_shift1 (a b : Int) : (a + 18446744073709551616) * b = a * b + 18446744073709551616 * b := by grind
theorem mul_shift2 (a b : Int) : a * (b + 18446744073709551616) = a * b + 18446744073709551616 * a := by grind
theorem mod_neg (a : Int) (h : a < 0) (a0 : -9223372036854775808 ≤ a) : a % 18446744073709551616 = a + 18446744073709551616 := by omega
theorem mod_pos (a : Int) (h : ¬ a < 0) (a1 : a < 9223372036854775808) : a % 18446744073709551616 = a := by omega

/-- The product's words, as the text reckons them. -/
theorem rep_times (a b : Int) (a0 : -9223372036854775808 ≤ a) (a1 : a < 9223372036854775808) (b0 : -9223372036854775808 ≤ b) (b1 : b < 9223372036854775808) :
    (a < 0 → b < 0 → Rep (a % 18446744073709551616 * (b % 18446744073709551616) % 18446744073709551616) (((a % 18446744073709551616 * (b % 18446744073709551616) / 18446744073709551616 - b % 18446744073709551616) % 18446744073709551616 - a % 18446744073709551616) % 18446744073709551616) (a * b)) ∧
    (a < 0 → ¬ b < 0 → Rep (a % 18446744073709551616 * (b % 18446744073709551616) % 18446744073709551616) ((a % 18446744073709551616 * (b % 18446744073709551616) / 18446744073709551616 - b % 18446744073709551616) % 18446744073709551616) (a * b)) ∧
    (¬ a < 0 → b < 0 → Rep (a % 18446744073709551616 * (b % 18446744073709551616) % 18446744073709551616) ((a % 18446744073709551616 * (b % 18446744073709551616) / 18446744073709551616 - a % 18446744073709551616) % 18446744073709551616) (a * b)) ∧
    (¬ a < 0 → ¬ b < 0 → Rep (a % 18446744073709551616 * (b % 18446744073709551616) % 18446744073709551616) (a % 18446744073709551616 * (b % 18446744073709551616) / 18446744073709551616) (a * b)) := by
  have hp := prod_bd a b a0 a1 b0 b1
  refine ⟨fun h k => ?_, fun h k => ?_, fun h k => ?_, fun h k => ?_⟩
  · have hq : 0 ≤ a * b := Int.mul_nonneg_of_nonpos_of_nonpos (by omega) (by omega)
    rw [mod_neg a h a0, mod_neg b k b0, mul_shift]
    generalize a * b = p at *
    exact ⟨by omega, by omega, by omega, by omega, .inl (by omega)⟩
  · have hq : a * b ≤ 0 := Int.mul_nonpos_of_nonpos_of_nonneg (by omega) (by omega)
    have hz : b = 0 → a * b = 0 := fun e => by rw [e, Int.mul_zero]
    have hn : b ≠ 0 → a * b < 0 := fun e => Int.mul_neg_of_neg_of_pos h (by omega)
    rw [mod_neg a h a0, mod_pos b k b1, mul_shift1]
    generalize a * b = p at *
    refine ⟨by omega, by omega, by omega, by omega, ?_⟩
    by_cases e : b = 0
    · have := hz e; exact .inl (by omega)
    · have := hn e; exact .inr (by omega)
  · have hq : a * b ≤ 0 := Int.mul_nonpos_of_nonneg_of_nonpos (by omega) (by omega)
    have hz : a = 0 → a * b = 0 := fun e => by rw [e, Int.zero_mul]
    have hn : a ≠ 0 → a * b < 0 := fun e => Int.mul_neg_of_pos_of_neg (by omega) k
    rw [mod_pos a h a1, mod_neg b k b0, mul_shift2]
    generalize a * b = p at *
    refine ⟨by omega, by omega, by omega, by omega, ?_⟩
    by_cases e : a = 0
    · have := hz e; exact .inl (by omega)
    · have := hn e; exact .inr (by omega)
  · have hq : 0 ≤ a * b := Int.mul_nonneg (by omega) (by omega)
    rw [mod_pos a h a1, mod_pos b k b1]
    generalize a * b = p at *
    exact ⟨by omega, by omega, by omega, by omega, .inl (by omega)⟩

theorem wrap_word (a : Int) : 0 ≤ IntKind.u64.wrap a ∧ IntKind.u64.wrap a < 18446744073709551616 := by rw [IntKind.wrap_u64]; omega

set_option maxHeartbeats 400000 in
theorem times_any (a b : Int) (a0 : -9223372036854775808 ≤ a) (a1 : a < 9223372036854775808) (b0 : -9223372036854775808 ≤ b) (b1 : b < 9223372036854775808) (w : World) :
    Calls Tryz.prog 229 #[.int .i64 a, .int .i64 b] w (Gives w (a * b)) := by
  obtain ⟨r1, r2, r3, r4⟩ := rep_times a b a0 a1 b0 b1
  by_cases h : a < 0 <;> by_cases k : b < 0
  · have r : Rep (IntKind.u64.wrap a * IntKind.u64.wrap b % 18446744073709551616) (IntKind.u64.wrap (IntKind.u64.wrap (IntKind.u64.wrap a * IntKind.u64.wrap b / 18446744073709551616 - IntKind.u64.wrap b) - IntKind.u64.wrap a)) (a * b) := by simpa only [IntKind.wrap_u64] using r1 h k
    go_enter Tryz.func229, Tryz.ntmps229
    go_wp2_with fail
    refine (mul64 _ _ (wrap_word _).1 (wrap_word _).2 (wrap_word _).1 (wrap_word _).2 _).mono ?_
    rintro e w1 ⟨rfl, rfl⟩
    go_wp2_with fail
    refine bodyPost_ret (v := .agg #[.int .u64 (IntKind.u64.wrap a * IntKind.u64.wrap b % 18446744073709551616), .int .u64 (IntKind.u64.wrap (IntKind.u64.wrap (IntKind.u64.wrap a * IntKind.u64.wrap b / 18446744073709551616 - IntKind.u64.wrap b) - IntKind.u64.wrap a))]) (by simp [results, Tryz.results229, go_sem]) rfl ⟨_, _, rfl, r, ?_⟩
    exact (Below.refl _ _).alloc (Nat.le_refl _) _
  · have r : Rep (IntKind.u64.wrap a * b % 18446744073709551616) (IntKind.u64.wrap (IntKind.u64.wrap a * b / 18446744073709551616 - b)) (a * b) := by simpa only [IntKind.wrap_u64, mod_pos b k b1] using r2 h k
    go_enter Tryz.func229, Tryz.ntmps229
    go_wp2_with fail
    refine (mul64 _ _ (wrap_word _).1 (wrap_word _).2 (by omega) (by omega) _).mono ?_
    rintro e w1 ⟨rfl, rfl⟩
    go_wp2_with fail
    refine bodyPost_ret (v := .agg #[.int .u64 (IntKind.u64.wrap a * b % 18446744073709551616), .int .u64 (IntKind.u64.wrap (IntKind.u64.wrap a * b / 18446744073709551616 - b))]) (by simp [results, Tryz.results229, go_sem]) rfl ⟨_, _, rfl, r, ?_⟩
    exact (Below.refl _ _).alloc (Nat.le_refl _) _
  · have r : Rep (a * IntKind.u64.wrap b % 18446744073709551616) (IntKind.u64.wrap (a * IntKind.u64.wrap b / 18446744073709551616 - a)) (a * b) := by simpa only [IntKind.wrap_u64, mod_pos a h a1] using r3 h k
    go_enter Tryz.func229, Tryz.ntmps229
    go_wp2_with fail
    refine (mul64 _ _ (by omega) (by omega) (wrap_word _).1 (wrap_word _).2 _).mono ?_
    rintro e w1 ⟨rfl, rfl⟩
    go_wp2_with fail
    refine bodyPost_ret (v := .agg #[.int .u64 (a * IntKind.u64.wrap b % 18446744073709551616), .int .u64 (IntKind.u64.wrap (a * IntKind.u64.wrap b / 18446744073709551616 - a))]) (by simp [results, Tryz.results229, go_sem]) rfl ⟨_, _, rfl, r, ?_⟩
    exact (Below.refl _ _).alloc (Nat.le_refl _) _
  · have r : Rep (a * b % 18446744073709551616) (a * b / 18446744073709551616) (a * b) := by simpa only [IntKind.wrap_u64, mod_pos a h a1, mod_pos b k b1] using r4 h k
    go_enter Tryz.func229, Tryz.ntmps229
    go_wp2_with fail
    refine (mul64 _ _ (by omega) (by omega) (by omega) (by omega) _).mono ?_
    rintro e w1 ⟨rfl, rfl⟩
    go_wp2_with fail
    refine bodyPost_ret (v := .agg #[.int .u64 (a * b % 18446744073709551616), .int .u64 (a * b / 18446744073709551616)]) (by simp [results, Tryz.results229, go_sem]) rfl ⟨_, _, rfl, r, ?_⟩
    exact (Below.refl _ _).alloc (Nat.le_refl _) _

/-- Rounded down. -/
def fl (n d : Int) : Int := if 0 < d then n / d else (-n) / (-d)

/-- x divided by D: q, and r is left over; q is a word. -/
structure Quo (x D q r : Int) : Prop where
  eq : x = q * D + r
  r0 : 0 ≤ r
  r1 : r < D
  q0 : 0 ≤ q
  q1 : q < 18446744073709551616

theorem quo_of (x D : Int) (x0 : 0 ≤ x) (x1 : x < 18446744073709551616) (h : 0 < D) : Quo x D (x / D) (x % D) := by
  have h0 := Int.ediv_nonneg x0 (Int.le_of_lt h)
  have h1 := Int.ediv_le_self D x0
  have h2 := Int.ediv_mul_add_emod x D
  exact ⟨h2.symm, Int.emod_nonneg _ (by omega), Int.emod_lt_of_pos _ h, h0, by omega⟩
theorem div64_z (x y : Int) (x0 : 0 ≤ x) (x1 : x < 18446744073709551616) (y0 : 0 < y) (w : World) :
    Calls Tryz.prog 268 #[.int .u64 0, .int .u64 x, .int .u64 y] w fun e w' => ∃ q r, e = .returned (.tuple #[.int .u64 q, .int .u64 r]) ∧ Quo x y q r ∧ Below w.heap.size w w' := by
  refine (div64_0 x y x0 x1 y0 w).mono ?_
  rintro e w' ⟨rfl, hb⟩
  exact ⟨_, _, rfl, quo_of x y x0 x1 y0, hb⟩

theorem ediv_is {n D q r : Int} (h : n = q * D + r) (r0 : 0 ≤ r) (r1 : r < D) : n / D = q := by
  subst h
  rw [Int.add_comm, Int.add_mul_ediv_right _ _ (by omega), Int.ediv_eq_zero_of_lt r0 r1, Int.zero_add]
theorem whole_quo {t0 t1 N D q1 r1 q0 r0 : Int} (rt : Rep t0 t1 N) (h1 : Quo t1 D q1 r1) (h0 : Quo (r1 * 18446744073709551616 + t0) D q0 r0) : N ≤ 170141183460469231731687303715884105727 → 0 ≤ N →
    Rep q0 q1 (q0 + 18446744073709551616 * q1) ∧ N = (q0 + 18446744073709551616 * q1) * D + r0 ∧ q0 + 18446744073709551616 * q1 ≤ N ∧ (r0 ≠ 0 → q0 + 18446744073709551616 * q1 < N) := by
  intro hN hN0
  obtain ⟨a1, a2, a3, a4, a5⟩ := rt
  obtain ⟨b1, b2, b3, b4, b5⟩ := h1
  obtain ⟨c1, c2, c3, c4, c5⟩ := h0
  have ht : t1 < 9223372036854775808 ∧ N = t0 + 18446744073709551616 * t1 := by
    rcases a5 with a5 | ⟨_, a5⟩
    · exact a5
    · omega
  have hD : 1 ≤ D := by omega
  have e1 : q1 * 1 ≤ q1 * D := Int.mul_le_mul_of_nonneg_left hD b4
  have eN : N = (q0 + 18446744073709551616 * q1) * D + r0 := by
    rw [Int.add_mul, Int.mul_assoc]
    generalize q1 * D = x at *
    generalize q0 * D = y at *
    omega
  have eQ : (q0 + 18446744073709551616 * q1) * 1 ≤ (q0 + 18446744073709551616 * q1) * D := Int.mul_le_mul_of_nonneg_left hD (by omega)
  refine ⟨⟨c4, c5, b4, b5, .inl ⟨by omega, rfl⟩⟩, eN, by omega, fun hr => by omega⟩
theorem fl_same {n d D Q r : Int} (hs : decide (n < 0) = decide (d < 0)) (dz : d ≠ 0) (eD : D = d.natAbs) (h : ((n.natAbs : Nat) : Int) = Q * D + r) (r0 : 0 ≤ r) (r1 : r < D) : fl n d = Q := by
  unfold fl
  by_cases hd : 0 < d
  · have : ¬ n < 0 := by
      have h2 : decide (d < 0) = false := by simp; omega
      rw [h2] at hs; simpa using hs
    rw [if_pos hd]
    have e : D = d := by omega
    subst e
    exact ediv_is (by omega) r0 r1
  · have : n < 0 := by
      have h2 : decide (d < 0) = true := by simp; omega
      rw [h2] at hs; simpa using hs
    rw [if_neg hd]
    have e : D = -d := by omega
    subst e
    exact ediv_is (by omega) r0 r1
theorem fl_other {n d D Q r : Int} (hs : decide (n < 0) ≠ decide (d < 0)) (dz : d ≠ 0) (eD : D = d.natAbs) (h : ((n.natAbs : Nat) : Int) = Q * D + r) (r0 : 0 ≤ r) (r1 : r < D) : fl n d = if r = 0 then -Q else -(Q + 1) := by
  have key : ∀ m : Int, m = -(Q * D + r) → m / D = if r = 0 then -Q else -(Q + 1) := by
    intro m hm
    split
    · exact ediv_is (r := 0) (by rw [Int.neg_mul]; omega) (by omega) (by omega)
    · exact ediv_is (r := D - r) (by rw [Int.neg_mul, Int.add_mul]; omega) (by omega) (by omega)
  unfold fl
  by_cases hd : 0 < d
  · have : n < 0 := by
      have h2 : decide (d < 0) = false := by simp; omega
      rw [h2] at hs; simpa using hs
    rw [if_pos hd]
    have e : D = d := by omega
    subst e
    exact key n (by omega)
  · have : ¬ n < 0 := by
      have h2 : decide (d < 0) = true := by simp; omega
      rw [h2] at hs; simpa using hs
    rw [if_neg hd]
    have e : D = -d := by omega
    subst e
    exact key (-n) (by omega)

/-- The second of the two divisions by words that 'over' makes goes well. -/
def DivOK (n D : Int) : Prop := ∀ x1 x0 q1 r1 w, Rep x0 x1 n.natAbs → Quo x1 D q1 r1 →
  Calls Tryz.prog 268 #[.int .u64 r1, .int .u64 x0, .int .u64 D] w fun e w' => ∃ q r, e = .returned (.tuple #[.int .u64 q, .int .u64 r]) ∧ Quo (r1 * 18446744073709551616 + x0) D q r ∧ Below w.heap.size w w'
theorem divOK_small (n D : Int) (h0 : -18446744073709551616 < n) (h1 : n < 18446744073709551616) (hD : 0 < D) : DivOK n D := by
  intro x1 x0 q1 r1 w rx hq
  have e1 : x1 = 0 := by
    obtain ⟨a1, a2, a3, a4, a5⟩ := rx
    rcases a5 with ⟨_, a5⟩ | ⟨_, a5⟩ <;> omega
  have e2 : r1 = 0 := by
    obtain ⟨b1, b2, b3, b4, b5⟩ := hq
    have : 0 ≤ q1 * D := Int.mul_nonneg b4 (by omega)
    omega
  subst e2
  rw [Int.zero_mul, Int.zero_add]
  exact div64_z x0 D rx.lo0 rx.lo1 hD w

set_option maxHeartbeats 1000000 in
theorem over_of (lo hi n d D : Int) (r : Rep lo hi n) (h0 : -170141183460469231731687303715884105728 < n) (d0 : -9223372036854775808 ≤ d) (d1 : d < 9223372036854775808) (dz : d ≠ 0) (eD : D = d.natAbs)
    (hD : DivOK n D)
    (w : World) :
    Calls Tryz.prog 228 #[.agg #[.int .u64 lo, .int .u64 hi], .int .i64 d] w (Gives w (fl n d)) := by
  have HD : Hid _ := hD
  have ED : Hid _ := eD
  clear hD
  have k3 : 0 < D := by omega
  have k4 : D ≤ 9223372036854775808 := by omega
  have k5 : -170141183460469231731687303715884105728 < d := by omega
  have rD : Rep D 0 d.natAbs := by rw [← eD]; exact ⟨by omega, by omega, by decide, by decide, .inl (by omega)⟩
  have hN : ((n.natAbs : Nat) : Int) ≤ 170141183460469231731687303715884105727 := by have := r.bounds; omega
  clear eD
  go_enter Tryz.func228, Tryz.ntmps228
  go_wp2_with fail
  refine (size_any lo hi n r h0 _).mono ?_
  rintro e w1 ⟨t0, t1, rfl, rt, hb1⟩
  obtain ⟨hc1, hf1⟩ := bcell hb1
  have hz1 : w.heap.size + 1 < w1.heap.size := by have := hb1.size; simp at this; omega
  have hz0 : w.heap.size < w1.heap.size := by omega
  go_wp2_with fail
  refine (widen_any d d0 d1 _).mono ?_
  rintro e w2 ⟨l2, g2, rfl, r2, hb2⟩
  obtain ⟨hc2, hf2⟩ := bcell hb2
  have hz2 : w1.heap.size < w2.heap.size := by have := hb2.size; simp at this; omega
  go_wp2_with fail
  refine (size_any l2 g2 d r2 k5 _).mono ?_
  rintro e w3 ⟨b0, b1, rfl, rb, hb3⟩
  obtain ⟨hc3, hf3⟩ := bcell hb3
  have hz3 : w1.heap.size < w3.heap.size := by have := hb3.size; omega
  obtain ⟨eb0, eb1⟩ : b0 = D ∧ b1 = 0 := Rep.unique rb rD
  subst eb0; subst eb1
  generalize hsn : decide (n < 0) = sn
  generalize hsd : decide (d < 0) = sd
  have HSN : Hid _ := hsn
  have HSD : Hid _ := hsd
  clear hsn hsd
  have k1 : (0 : Int) ≤ t1 := rt.hi0
  have k2 : t1 < 18446744073709551616 := rt.hi1
  go_wp2_with fail
  refine (div64_z t1 _ k1 k2 k3 _).mono ?_
  rintro e w4 ⟨q1, r1, rfl, hq1, hb4⟩
  obtain ⟨hc4, hf4⟩ := bcell hb4
  have hz4 : w3.heap.size < w4.heap.size := by have := hb4.size; simp at this; omega
  have hz4' : w1.heap.size < w4.heap.size := by omega
  go_wp2_with fail
  refine (HD.out t1 t0 q1 r1 _ rt hq1).mono ?_
  rintro e w5 ⟨q0, r0, rfl, hq0, hb5⟩
  obtain ⟨hc5, hf5⟩ := bcell hb5
  have hz5 : w.heap.size + 1 < w5.heap.size := by have := hb5.size; omega
  have hy2 : w.heap.size + 1 < w2.heap.size := by omega
  have hy3 : w.heap.size + 1 < w3.heap.size := by omega
  have hy4 : w.heap.size + 1 < w4.heap.size := by omega
  have hR : Below (w.heap.size + 2) ((w.alloc (.cells #[.int .u64 lo, .int .u64 hi] 216)).alloc (.cells #[.int .u64 0, .int .u64 0] 216)) w5 :=
    ((((hb1.mono (by simp)).alloc (by omega) _).trans ((hb2.mono (by simp; omega)).trans (hb3.mono (by omega)))).alloc (by omega) _).trans ((hb4.mono (by simp; omega)).trans (hb5.mono (by omega)))
  have hall : Below w.heap.size w w5 := (((Below.refl _ _).alloc (Nat.le_refl _) _).alloc (by simp) _).trans (hR.mono (by omega))
  have cR0 := hR.cell (p := ⟨w.heap.size + 1, 0, none⟩) (by simp)
  have cR1 := hR.cell (p := ⟨w.heap.size + 1, 1, none⟩) (by simp)
  have fR0 := hR.frozen (p := ⟨w.heap.size + 1, 0, none⟩) (by simp)
  have fR1 := hR.frozen (p := ⟨w.heap.size + 1, 1, none⟩) (by simp)
  simp [go_sem] at cR0 cR1 fR0 fR1
  clear hR hc1 hc2 hc3 hc4 hc5 hf1 hf2 hf3 hf4 hf5
  obtain ⟨rQ, eN, bQ, bQ'⟩ := whole_quo rt hq1 hq0 hN (by omega)
  have EN : Hid _ := eN
  clear eN
  have HQ : Hid _ := bQ'
  clear bQ'
  have kq0 := hq0.q0
  have kq1 := hq1.q0
  by_cases hs : sn = sd
  · subst hs
    have e1 : fl n d = q0 + 18446744073709551616 * q1 := fl_same (HSN.out.trans HSD.out.symm) dz ED.out EN.out hq0.r0 hq0.r1
    have E1 : Hid _ := e1
    clear e1
    go_wp2_with fail
    refine bodyPost_ret (v := .agg #[.int .u64 q0, .int .u64 q1]) (by simp [results, Tryz.results228, go_sem, cR0, cR1, hz5]) rfl ⟨_, _, rfl, by rw [E1.out]; exact rQ, ?_⟩
    exact ((hall.setCell (by simp) _).setCell (by simp) _).alloc (by simp [go_sem]; omega) _
  · have hq : (sn == sd) = false := by simpa using hs
    have hne : decide (n < 0) ≠ decide (d < 0) := fun e => hs (HSN.out.symm.trans (e.trans HSD.out))
    have e1 := fl_other hne dz ED.out EN.out hq0.r0 hq0.r1
    have HS : Hid _ := hs
    have HNE : Hid _ := hne
    clear hs hne
    by_cases hr : r0 = 0
    · rw [if_pos hr] at e1
      have E1 : Hid _ := e1
      clear e1
      subst hr
      go_wp2_with fail
      refine (minus_any 0 0 q0 q1 0 _ rep_zero rQ (by omega) (by omega) _).mono ?_
      rintro e w6 ⟨q0', q1', rfl, rQ', hb6⟩
      have dR0 := hb6.cell (p := ⟨w.heap.size + 1, 0, none⟩) (by simp; omega)
      have dR1 := hb6.cell (p := ⟨w.heap.size + 1, 1, none⟩) (by simp; omega)
      have gR0 := hb6.frozen (p := ⟨w.heap.size + 1, 0, none⟩) (by simp; omega)
      have gR1 := hb6.frozen (p := ⟨w.heap.size + 1, 1, none⟩) (by simp; omega)
      simp [go_sem, cR0, cR1, fR0, fR1, hz5] at dR0 dR1 gR0 gR1
      go_wp2_with fail
      refine bodyPost_ret (v := .agg #[.int .u64 q0', .int .u64 q1']) (by simp [results, Tryz.results228, go_sem, dR0, dR1]) rfl ⟨_, _, rfl, by rw [E1.out, ← Int.zero_sub]; exact rQ', ?_⟩
      exact (((hall.alloc (by omega) _).trans (hb6.mono (by simp; omega))).setCell (by simp) _).setCell (by simp) _
    · rw [if_neg hr] at e1
      have E1 : Hid _ := e1
      clear e1
      have hr' : (r0 != 0) = true := by simpa using hr
      have hQ := HQ.out hr
      go_wp2_with fail
      refine (plus_any q0 q1 1 0 _ 1 rQ ⟨by decide, by decide, by decide, by decide, .inl ⟨by decide, by decide⟩⟩ (by omega) (by omega) _).mono ?_
      rintro e w6 ⟨p0, p1, rfl, rP, hb6⟩
      have dR0 := hb6.cell (p := ⟨w.heap.size + 1, 0, none⟩) (by simp; omega)
      have dR1 := hb6.cell (p := ⟨w.heap.size + 1, 1, none⟩) (by simp; omega)
      have gR0 := hb6.frozen (p := ⟨w.heap.size + 1, 0, none⟩) (by simp; omega)
      have gR1 := hb6.frozen (p := ⟨w.heap.size + 1, 1, none⟩) (by simp; omega)
      have dQ0 := hb6.cell (p := ⟨w5.heap.size, 0, none⟩) (by simp)
      have dQ1 := hb6.cell (p := ⟨w5.heap.size, 1, none⟩) (by simp)
      have gQ0 := hb6.frozen (p := ⟨w5.heap.size, 0, none⟩) (by simp)
      have gQ1 := hb6.frozen (p := ⟨w5.heap.size, 1, none⟩) (by simp)
      simp [go_sem, cR0, cR1, fR0, fR1, hz5] at dR0 dR1 gR0 gR1 dQ0 dQ1 gQ0 gQ1
      have hne : w.heap.size + 1 ≠ w5.heap.size := by omega
      have hz6 : w.heap.size + 1 < w6.heap.size := by have := hb6.size; simp at this; omega
      clear cR0 cR1 fR0 fR1
      go_wp2_with fail
      refine (minus_any 0 0 p0 p1 0 _ rep_zero rP (by omega) (by omega) _).mono ?_
      rintro e w7 ⟨q0', q1', rfl, rQ', hb7⟩
      have dR0' := hb7.cell (p := ⟨w.heap.size + 1, 0, none⟩) (by simp [go_sem]; omega)
      have dR1' := hb7.cell (p := ⟨w.heap.size + 1, 1, none⟩) (by simp [go_sem]; omega)
      have gR0' := hb7.frozen (p := ⟨w.heap.size + 1, 0, none⟩) (by simp [go_sem]; omega)
      have gR1' := hb7.frozen (p := ⟨w.heap.size + 1, 1, none⟩) (by simp [go_sem]; omega)
      simp [go_sem, dR0, dR1, gR0, gR1] at dR0' dR1' gR0' gR1'
      go_wp2_with fail
      refine bodyPost_ret (v := .agg #[.int .u64 q0', .int .u64 q1']) (by simp [results, Tryz.results228, go_sem, dR0', dR1']) rfl ⟨_, _, rfl, by rw [E1.out, ← Int.zero_sub]; exact rQ', ?_⟩
      exact (((((((hall.alloc (by omega) _).trans (hb6.mono (by simp; omega))).setCell (by simp; omega) _).setCell (by simp; omega) _)).trans (hb7.mono (by simp [go_sem]; omega))).setCell (by simp) _).setCell (by simp) _

set_option maxHeartbeats 400000 in
theorem Mul_of (a b : Int) (a0 : -9223372036854775808 ≤ a) (a1 : a < 9223372036854775808) (b0 : -9223372036854775808 ≤ b) (b1 : b < 9223372036854775808) (hD : DivOK (a * b) 1000000) (w : World) :
    Calls Tryz.prog 157 #[.int .i64 a, .int .i64 b] w fun e w' => e = .returned (.int .i64 (held (a * b / 1000000))) ∧ Below w.heap.size w w' := by
  have hp := prod_bd a b a0 a1 b0 b1
  go_enter Tryz.func157, Tryz.ntmps157
  go_wp2_with fail
  refine (times_any a b a0 a1 b0 b1 _).mono ?_
  rintro e w1 ⟨lo1, hi1, rfl, r1, hb1⟩
  go_wp2_with fail
  refine (over_of lo1 hi1 _ 1000000 1000000 r1 (by omega) (by decide) (by decide) (by decide) (by decide) hD _).mono ?_
  rintro e w2 ⟨lo2, hi2, rfl, r2, hb2⟩
  go_wp2_with fail
  refine (hold_any lo2 hi2 _ r2 _).mono ?_
  rintro e w3 ⟨rfl, hb3⟩
  go_wp2_with fail
  go_ret
  exact ⟨rfl, below_two (below_two hb1 hb2) hb3⟩

set_option maxHeartbeats 400000 in
theorem Div_of (a b : Int) (a0 : -9223372036854775808 ≤ a) (a1 : a < 9223372036854775808) (b0 : -9223372036854775808 ≤ b) (b1 : b < 9223372036854775808) (hz : b ≠ 0) (hD : DivOK (a * 1000000) b.natAbs) (w : World) :
    Calls Tryz.prog 230 #[.int .i64 a, .int .i64 b] w fun e w' => e = .returned (.tuple #[.int .i64 (held (fl (a * 1000000) b)), .bool true]) ∧ Below w.heap.size w w' := by
  have hk : (b == 0) = false := beq_eq_false_iff_ne.2 hz
  have HZ : Hid _ := hz
  clear hz
  go_enter Tryz.func230, Tryz.ntmps230
  go_wp2_with fail
  refine (times_any a 1000000 a0 a1 (by decide) (by decide) _).mono ?_
  rintro e w1 ⟨lo1, hi1, rfl, r1, hb1⟩
  go_wp2_with fail
  refine (over_of lo1 hi1 _ b _ r1 (by omega) b0 b1 HZ.out rfl hD _).mono ?_
  rintro e w2 ⟨lo2, hi2, rfl, r2, hb2⟩
  go_wp2_with fail
  refine (hold_any lo2 hi2 _ r2 _).mono ?_
  rintro e w3 ⟨rfl, hb3⟩
  go_wp2_with fail
  go_ret2
  exact ⟨rfl, below_two (below_two hb1 hb2) hb3⟩
theorem Div_zero (a : Int) (w : World) :
    Calls Tryz.prog 230 #[.int .i64 a, .int .i64 0] w fun e w' => e = .returned (.tuple #[.int .i64 0, .bool false]) ∧ Below w.heap.size w w' := by
  go_enter Tryz.func230, Tryz.ntmps230
  go_wp2_with fail
  go_ret2
  exact ⟨rfl, Below.refl _ _⟩

set_option maxHeartbeats 400000 in
theorem Scale_of (a m d : Int) (a0 : -9223372036854775808 ≤ a) (a1 : a < 9223372036854775808) (m0 : 0 ≤ m) (m1 : m < 9223372036854775808) (d0 : 1 ≤ d) (d1 : d < 9223372036854775808) (hD : DivOK (a * m) d) (w : World) :
    Calls Tryz.prog 221 #[.int .i64 a, .int .i64 m, .int .i64 d] w fun e w' => e = .returned (.int .i64 (held (a * m / d))) ∧ Below w.heap.size w w' := by
  have hp := prod_bd a m a0 a1 (by omega) m1
  have e1 : fl (a * m) d = a * m / d := by unfold fl; rw [if_pos (by omega)]
  have E1 : Hid _ := e1
  clear e1
  have k1 : decide (m < 0) = false := by simp; omega
  have k2 : decide (d < 1) = false := by simp; omega
  go_enter Tryz.func221, Tryz.ntmps221
  go_wp2_with fail
  refine (times_any a m a0 a1 (by omega) m1 _).mono ?_
  rintro e w1 ⟨lo1, hi1, rfl, r1, hb1⟩
  go_wp2_with fail
  refine (over_of lo1 hi1 _ d d r1 (by omega) (by omega) d1 (by omega) (by omega) hD _).mono ?_
  rintro e w2 ⟨lo2, hi2, rfl, r2, hb2⟩
  go_wp2_with fail
  refine (hold_any lo2 hi2 _ r2 _).mono ?_
  rintro e w3 ⟨rfl, hb3⟩
  go_wp2_with fail
  go_ret
  exact ⟨ret_int (by rw [E1.out]), below_two (below_two hb1 hb2) hb3⟩
theorem Scale_none (a m d : Int) (h : m < 0 ∨ d < 1) (w : World) :
    Calls Tryz.prog 221 #[.int .i64 a, .int .i64 m, .int .i64 d] w fun e w' => e = .returned (.int .i64 0) ∧ Below w.heap.size w w' := by
  by_cases k : m < 0
  · clear h
    go_enter Tryz.func221, Tryz.ntmps221
    go_wp2_with fail
    go_ret
    exact ⟨rfl, Below.refl _ _⟩
  · have k2 : d < 1 := by omega
    clear h
    go_enter Tryz.func221, Tryz.ntmps221
    go_wp2_with fail
    go_ret
    exact ⟨rfl, Below.refl _ _⟩

set_option maxHeartbeats 400000 in
theorem Whole_any (n : Int) (n0 : -9223372036854775808 ≤ n) (n1 : n < 9223372036854775808) (w : World) :
    Calls Tryz.prog 216 #[.int .i64 n] w fun e w' => e = .returned (.int .i64 (held (n * 1000000))) ∧ Below w.heap.size w w' := by
  go_enter Tryz.func216, Tryz.ntmps216
  go_wp2_with fail
  refine (times_any n 1000000 n0 n1 (by decide) (by decide) _).mono ?_
  rintro e w1 ⟨lo1, hi1, rfl, r1, hb1⟩
  go_wp2_with fail
  refine (hold_any lo1 hi1 _ r1 _).mono ?_
  rintro e w3 ⟨rfl, hb3⟩
  go_wp2_with fail
  go_ret
  exact ⟨rfl, below_two hb1 hb3⟩

/-- Go's quotient and rest (cut toward 0), as the quotient rounded down. -/
theorem cut_down (a : Int) : (a.tmod 1000000 < 0 → a.tdiv 1000000 - 1 = a / 1000000) ∧ (¬ a.tmod 1000000 < 0 → a.tdiv 1000000 = a / 1000000) ∧ (0 < a.tmod 1000000 → a.tdiv 1000000 + 1 = -((-a) / 1000000)) ∧ (¬ 0 < a.tmod 1000000 → a.tdiv 1000000 = -((-a) / 1000000)) := by
  have h1 := Int.tdiv_mul_add_tmod a 1000000
  by_cases h : 0 ≤ a
  · have h2 := Int.tmod_nonneg 1000000 h
    have h3 := Int.tmod_lt_of_pos a (show (0 : Int) < 1000000 by decide)
    omega
  · have e1 : a.tmod 1000000 = -((-a).tmod 1000000) := by rw [Int.neg_tmod, Int.neg_neg]
    have h2 := Int.tmod_nonneg 1000000 (show 0 ≤ -a by omega)
    have h3 := Int.tmod_lt_of_pos (-a) (show (0 : Int) < 1000000 by decide)
    omega

set_option maxHeartbeats 400000 in
theorem wholes_any (a : Int) (a0 : -9223372036854775808 ≤ a) (a1 : a < 9223372036854775808) (w : World) :
    Calls Tryz.prog 220 #[.int .i64 a] w fun e w' => e = .returned (.int .i64 (a / 1000000)) ∧ Below w.heap.size w w' := by
  have C1 : Hid _ := (cut_down a).1
  have C2 : Hid _ := (cut_down a).2.1
  by_cases h : a.tmod 1000000 < 0
  · have l0 : -9223372036854775808 ≤ a.tdiv 1000000 - 1 := by rw [C1.out h]; omega
    have l1 : a.tdiv 1000000 - 1 ≤ 9223372036854775807 := by rw [C1.out h]; omega
    go_enter Tryz.func220, Tryz.ntmps220
    go_wp2_with fail
    go_ret
    exact ⟨ret_int (C1.out h), Below.refl _ _⟩
  · go_enter Tryz.func220, Tryz.ntmps220
    go_wp2_with fail
    go_ret
    exact ⟨ret_int (C2.out h), Below.refl _ _⟩

set_option maxHeartbeats 400000 in
theorem Ceil_any (a : Int) (a0 : -9223372036854775808 ≤ a) (a1 : a < 9223372036854775808) (w : World) :
    Calls Tryz.prog 150 #[.int .i64 a] w fun e w' => e = .returned (.int .i64 (held (-((-a) / 1000000) * 1000000))) ∧ Below w.heap.size w w' := by
  have C1 : Hid _ := (cut_down a).2.2.1
  have C2 : Hid _ := (cut_down a).2.2.2
  by_cases h : 0 < a.tmod 1000000
  · have l0 : -9223372036854775808 ≤ a.tdiv 1000000 + 1 := by rw [C1.out h]; omega
    have l1 : a.tdiv 1000000 + 1 ≤ 9223372036854775807 := by rw [C1.out h]; omega
    go_enter Tryz.func150, Tryz.ntmps150
    go_wp2_with fail
    rw [C1.out h]
    refine (Whole_any _ (by omega) (by omega) _).mono ?_
    rintro e w3 ⟨rfl, hb3⟩
    go_wp2_with fail
    go_ret
    exact ⟨rfl, hb3⟩
  · go_enter Tryz.func150, Tryz.ntmps150
    go_wp2_with fail
    rw [C2.out h]
    refine (Whole_any _ (by omega) (by omega) _).mono ?_
    rintro e w3 ⟨rfl, hb3⟩
    go_wp2_with fail
    go_ret
    exact ⟨rfl, hb3⟩

set_option maxHeartbeats 400000 in
theorem Count_any (a : Int) (a0 : -9223372036854775808 ≤ a) (a1 : a < 9223372036854775808) (w : World) :
    Calls Tryz.prog 231 #[.int .i64 a] w fun e w' => e = .returned (.int .i64 (held (-((-a) / 1000000) * 1000000) / 1000000)) ∧ Below w.heap.size w w' := by
  have hh := held_bd (-((-a) / 1000000) * 1000000)
  go_enter Tryz.func231, Tryz.ntmps231
  go_wp2_with fail
  refine (Ceil_any a a0 a1 _).mono ?_
  rintro e w1 ⟨rfl, hb1⟩
  go_wp2_with fail
  refine (wholes_any _ (by omega) (by omega) _).mono ?_
  rintro e w3 ⟨rfl, hb3⟩
  go_wp2_with fail
  go_ret
  exact ⟨rfl, below_two hb1 hb3⟩

theorem fl_awake : held (fl (-1 * 1000000) 3000000) = -1 := by decide
theorem mul_awake : held (1500000 * -1 / 1000000) = -2 := by decide
theorem count_awake : held (-((-1) / 1000000) * 1000000) / 1000000 = 1 := by decide

set_option maxHeartbeats 400000 in
theorem Floor_any (a : Int) (a0 : -9223372036854775808 ≤ a) (a1 : a < 9223372036854775808) (w : World) :
    Calls Tryz.prog 151 #[.int .i64 a] w fun e w' => e = .returned (.int .i64 (held (a / 1000000 * 1000000))) ∧ Below w.heap.size w w' := by
  go_enter Tryz.func151, Tryz.ntmps151
  go_wp2_with fail
  refine (wholes_any a a0 a1 _).mono ?_
  rintro e w1 ⟨rfl, hb1⟩
  go_wp2_with fail
  refine (Whole_any _ (by omega) (by omega) _).mono ?_
  rintro e w3 ⟨rfl, hb3⟩
  go_wp2_with fail
  go_ret
  exact ⟨rfl, below_two hb1 hb3⟩


theorem ret_i64 {a b : Int} (h : a = b) : Ending.returned (.int .i64 a) = .returned (.int .i64 b) := by rw [h]
theorem len_fin (x i : Int) (c : Nat) (hc : c ≤ 56) (i0 : 0 ≤ i) (i1 : i < 256) (e : i.toNat = x.toNat / 2 ^ c) (hn : c = 0 ∨ 0 < i) : wrap64 ((c : Int) + wrap64 (bitLen i.toNat)) = bitLen x.toNat := by
  have h8 := bitLen_le8 i.toNat (by omega)
  have key : bitLen x.toNat = c + bitLen i.toNat := by
    rcases hn with rfl | hn
    · rw [e]; simp
    · rw [e]; exact bitLen_shift x.toNat c (by rw [← e]; omega)
  rw [key]
  unfold wrap64
  omega

set_option maxHeartbeats 4000000 in
set_option maxRecDepth 100000 in
theorem len64 (x : Int) (x0 : 0 ≤ x) (x1 : x < 18446744073709551616) (w : World) :
    Calls Tryz.prog 289 #[.int .u64 x] w fun e w' => e = .returned (.int .i64 (bitLen x.toNat)) ∧ w' = w := by
  go_enter Tryz.func289, Tryz.ntmps289
  go_wp2
  all_goals go_ret
  all_goals refine ⟨congrArg Ending.returned (congrArg (Value.int IntKind.i64) ?_), rfl⟩
  all_goals rw [len8tab_get]
  · exact len_fin x _ 56 (by omega) (by omega) (by omega) (by omega) (by omega)
  · exact len_fin x _ 48 (by omega) (by omega) (by omega) (by omega) (by omega)
  · exact len_fin x _ 40 (by omega) (by omega) (by omega) (by omega) (by omega)
  · exact len_fin x _ 32 (by omega) (by omega) (by omega) (by omega) (by omega)
  · exact len_fin x _ 24 (by omega) (by omega) (by omega) (by omega) (by omega)
  · exact len_fin x _ 16 (by omega) (by omega) (by omega) (by omega) (by omega)
  · exact len_fin x _ 8 (by omega) (by omega) (by omega) (by omega) (by omega)
  · have h8 := bitLen_le8 x.toNat (by omega)
    unfold wrap64
    omega

theorem cast_shift (Y s : Nat) : (Y : Int) * 2 ^ s = ((Y * 2 ^ s : Nat) : Int) := by
  rw [Int.natCast_mul, Int.natCast_pow]; rfl
theorem bitLen_64 (x : Nat) (h : x < 18446744073709551616) : bitLen x ≤ 64 := by
  unfold bitLen
  split
  · omega
  · rename_i h0
    have := (Nat.log2_lt h0).2 (show x < 2 ^ 64 from h)
    omega

set_option maxHeartbeats 400000 in
/-- How far y is to be shifted up. -/
theorem lead64 (y : Int) (y0 : 0 < y) (y1 : y < 18446744073709551616) (w : World) :
    Calls Tryz.prog 285 #[.int .u64 y] w fun e w' => ∃ s : Nat, e = .returned (.int .i64 s) ∧ s ≤ 63 ∧ 9223372036854775808 ≤ y * 2 ^ s ∧ y * 2 ^ s < 18446744073709551616 ∧ w' = w := by
  have hb := bitLen_64 y.toNat (by omega)
  obtain ⟨k1, k2⟩ := bitLen_spec y.toNat
  have k3 := k2 (by omega)
  have hp : 1 ≤ bitLen y.toNat := by
    cases h : bitLen y.toNat with
    | zero => rw [h] at k1; simp at k1; omega
    | succ n => omega
  obtain ⟨Y, rfl⟩ := Int.eq_ofNat_of_zero_le (Int.le_of_lt y0)
  rw [Int.toNat_natCast] at hb k1 k3 hp
  have f1 : Y * 2 ^ (64 - bitLen Y) < 18446744073709551616 := by
    calc Y * 2 ^ (64 - bitLen Y) < 2 ^ bitLen Y * 2 ^ (64 - bitLen Y) := Nat.mul_lt_mul_of_pos_right k1 (Nat.two_pow_pos _)
      _ = 2 ^ 64 := by rw [← Nat.pow_add]; congr 1; omega
  have f2 : 9223372036854775808 ≤ Y * 2 ^ (64 - bitLen Y) := by
    calc 9223372036854775808 = 2 ^ (bitLen Y - 1) * 2 ^ (64 - bitLen Y) := by rw [← Nat.pow_add, show bitLen Y - 1 + (64 - bitLen Y) = 63 by omega]
      _ ≤ Y * 2 ^ (64 - bitLen Y) := Nat.mul_le_mul_right _ k3
  have H1 : Hid _ := f1
  have H2 : Hid _ := f2
  clear f1 f2 k1 k2 k3
  go_enter Tryz.func285, Tryz.ntmps285
  go_wp2_with fail
  refine (len64 _ (Int.le_of_lt y0) y1 _).mono ?_
  rintro e w' ⟨rfl, rfl⟩
  rw [Int.toNat_natCast]
  go_wp2_with fail
  go_ret
  refine ⟨64 - bitLen Y, ret_i64 (by omega), by omega, ?_, ?_, rfl⟩
  · have := H2.out; rw [cast_shift]; omega
  · have := H1.out; rw [cast_shift]; omega
end Go.Proofs.YtbddbnjhmdbkbaaGreatDoor
end
section
namespace Go.Proofs.YtbddbnjhmdbkbaaGreatDoor

/-- A digit of the quotient is looked for: u * B + d over y1 * B + y0. The guess q is not too low; r is what it leaves of u. -/
structure Dig (u y1 y0 d q r : Int) : Prop where
  eq : q * y1 + r = u
  r0 : 0 ≤ r
  q0 : 0 ≤ q
  ge : u * 4294967296 + d < (q + 1) * (y1 * 4294967296 + y0)

/-- What is asked of a digit's numbers. -/
structure Norm (u y1 y0 d : Int) : Prop where
  y00 : 0 ≤ y0
  y01 : y0 < 4294967296
  y10 : 2147483648 ≤ y1
  y11 : y1 < 4294967296
  u0 : 0 ≤ u
  u1 : u < y1 * 4294967296 + y0
  d0 : 0 ≤ d
  d1 : d < 4294967296

theorem mul_norm (q y1 y0 : Int) : q * (y1 * 4294967296 + y0) = q * y1 * 4294967296 + q * y0 := by rw [Int.mul_add, ← Int.mul_assoc]
theorem dig_start {u y1 y0 d : Int} (n : Norm u y1 y0 d) : Dig u y1 y0 d (u / y1) (u % y1) ∧ u % y1 < 4294967296 := by
  obtain ⟨a1, a2, a3, a4, a5, a6, a7, a8⟩ := n
  have h1 := Int.ediv_mul_add_emod u y1
  have h2 := Int.emod_nonneg u (show y1 ≠ 0 by omega)
  have h3 := Int.emod_lt_of_pos u (show 0 < y1 by omega)
  have h4 := Int.ediv_nonneg a5 (show 0 ≤ y1 by omega)
  have h5 : 0 ≤ (u / y1 + 1) * y0 := Int.mul_nonneg (by omega) a1
  refine ⟨⟨h1, h2, h4, ?_⟩, by omega⟩
  rw [mul_norm, Int.add_mul (u / y1) 1 y1]
  generalize u / y1 * y1 = p at *
  generalize (u / y1 + 1) * y0 = p0 at *
  omega
/-- The guess was too high: one less. -/
theorem dig_less {u y1 y0 d q r : Int} (n : Norm u y1 y0 d) (g : Dig u y1 y0 d q r) (h : 4294967296 ≤ q ∨ 4294967296 * r + d < q * y0) : Dig u y1 y0 d (q - 1) (r + y1) ∧ 1 ≤ q := by
  obtain ⟨a1, a2, a3, a4, a5, a6, a7, a8⟩ := n
  obtain ⟨g1, g2, g3, g4⟩ := g
  have key : u * 4294967296 + d < q * (y1 * 4294967296 + y0) := by
    rcases h with h | h
    · have h5 : 4294967296 * (y1 * 4294967296 + y0) ≤ q * (y1 * 4294967296 + y0) := Int.mul_le_mul_of_nonneg_right h (by omega)
      generalize q * (y1 * 4294967296 + y0) = p at *
      omega
    · rw [mul_norm]
      generalize q * y1 = p at *
      generalize q * y0 = p0 at *
      omega
  have hq : 1 ≤ q := by
    by_cases hz : q = 0
    · subst hz; rw [Int.zero_mul] at key; omega
    · omega
  refine ⟨⟨?_, by omega, by omega, ?_⟩, hq⟩
  · rw [Int.sub_mul]; generalize q * y1 = p at *; omega
  · rw [show q - 1 + 1 = q by omega]; exact key
/-- The guess is right: the loop's test says so. -/
theorem dig_done {u y1 y0 d q r : Int} (g : Dig u y1 y0 d q r) (h : q * y0 ≤ 4294967296 * r + d) : 0 ≤ u * 4294967296 + d - q * (y1 * 4294967296 + y0) ∧ u * 4294967296 + d - q * (y1 * 4294967296 + y0) < y1 * 4294967296 + y0 := by
  obtain ⟨g1, g2, g3, g4⟩ := g
  rw [Int.add_mul, Int.one_mul] at g4
  refine ⟨?_, by omega⟩
  rw [mul_norm]
  generalize q * y1 = p at *
  generalize q * y0 = p0 at *
  omega
/-- The guess is right: what is left over has no room for more. -/
theorem dig_break {u y1 y0 d q r : Int} (n : Norm u y1 y0 d) (g : Dig u y1 y0 d q r) (h : 4294967296 ≤ r) : q < 4294967296 ∧ 0 ≤ u * 4294967296 + d - q * (y1 * 4294967296 + y0) ∧ u * 4294967296 + d - q * (y1 * 4294967296 + y0) < y1 * 4294967296 + y0 := by
  obtain ⟨a1, a2, a3, a4, a5, a6, a7, a8⟩ := n
  have g' := g
  obtain ⟨g1, g2, g3, g4⟩ := g
  have hq : q < 4294967296 := by
    by_cases hz : 4294967296 ≤ q
    · have := Int.mul_le_mul_of_nonneg_right hz (show 0 ≤ y1 by omega)
      generalize q * y1 = p at *
      omega
    · omega
  have h5 : q * y0 ≤ 4294967295 * y0 := Int.mul_le_mul_of_nonneg_right (by omega) a1
  exact ⟨hq, dig_done g' (by generalize q * y0 = p0 at *; omega)⟩

/-- The dividend, shifted up by s, in a word and a word. -/
theorem shift_up (h l y : Int) (s : Nat) (h0 : 0 ≤ h) (hy : h < y) (l0 : 0 ≤ l) (l1 : l < 18446744073709551616) (s1 : s ≤ 63) (z1 : y * 2 ^ s < 18446744073709551616) :
    bits .or .u64 (IntKind.u64.wrap (h * 2 ^ s)) (l / 2 ^ (64 - s)) * 18446744073709551616 + IntKind.u64.wrap (l * 2 ^ s) = (h * 18446744073709551616 + l) * 2 ^ s ∧
    0 ≤ bits .or .u64 (IntKind.u64.wrap (h * 2 ^ s)) (l / 2 ^ (64 - s)) ∧ bits .or .u64 (IntKind.u64.wrap (h * 2 ^ s)) (l / 2 ^ (64 - s)) < y * 2 ^ s := by
  obtain ⟨H, rfl⟩ := Int.eq_ofNat_of_zero_le h0
  obtain ⟨L, rfl⟩ := Int.eq_ofNat_of_zero_le l0
  obtain ⟨Y, rfl⟩ := Int.eq_ofNat_of_zero_le (show 0 ≤ y by omega)
  have c1 : ∀ a : Nat, (a : Int) * 2 ^ s = ((a * 2 ^ s : Nat) : Int) := fun a => by rw [Int.natCast_mul, Int.natCast_pow]; rfl
  have c2 : (L : Int) / 2 ^ (64 - s) = ((L / 2 ^ (64 - s) : Nat) : Int) := by rw [Int.natCast_ediv, Int.natCast_pow]; rfl
  have c3 : ((H : Int) * 18446744073709551616 + L) * 2 ^ s = (((H * 18446744073709551616 + L) * 2 ^ s : Nat) : Int) := by rw [← c1]; rfl
  have hp : 2 ^ (64 - s) * 2 ^ s = 18446744073709551616 := by rw [← Nat.pow_add, show 64 - s + s = 64 by omega]
  have pp : 0 < 2 ^ s := Nat.two_pow_pos s
  have hL : L / 2 ^ (64 - s) < 2 ^ s := (Nat.div_lt_iff_lt_mul (Nat.two_pow_pos _)).2 (by rw [Nat.mul_comm, hp]; omega)
  have hHY : (H + 1) * 2 ^ s ≤ Y * 2 ^ s := Nat.mul_le_mul_right _ (by omega)
  have hY : Y * 2 ^ s < 18446744073709551616 := by rw [c1] at z1; omega
  rw [Nat.add_mul, Nat.one_mul] at hHY
  have hU : H * 2 ^ s ||| L / 2 ^ (64 - s) = H * 2 ^ s + L / 2 ^ (64 - s) := by
    rw [Nat.mul_comm H, Nat.two_pow_add_eq_or_of_lt hL]
  have hw : IntKind.u64.wrap ((H : Int) * 2 ^ s) = ((H * 2 ^ s : Nat) : Int) := by rw [IntKind.wrap_u64, c1]; omega
  have hw' : IntKind.u64.wrap ((L : Int) * 2 ^ s) = ((L * 2 ^ s % 18446744073709551616 : Nat) : Int) := by rw [IntKind.wrap_u64, c1]; omega
  have hb : bits .or .u64 (IntKind.u64.wrap ((H : Int) * 2 ^ s)) ((L : Int) / 2 ^ (64 - s)) = ((H * 2 ^ s + L / 2 ^ (64 - s) : Nat) : Int) := by
    rw [hw, c2, bits_or_u64_nat _ _ (by omega) (by omega), hU]
  have hd : L * 2 ^ s / 18446744073709551616 = L / 2 ^ (64 - s) := by rw [← hp]; exact Nat.mul_div_mul_right _ _ pp
  have hm := Nat.div_add_mod (L * 2 ^ s) 18446744073709551616
  rw [hb, hw', c3, c1 Y]
  rw [hd] at hm
  rw [Nat.add_mul, Nat.mul_right_comm]
  generalize L / 2 ^ (64 - s) = x at *
  generalize H * 2 ^ s = X at *
  generalize L * 2 ^ s = Z at *
  generalize Y * 2 ^ s = V at *
  refine ⟨by omega, by omega, by omega⟩

/-- The two digits together, shifted back. -/
theorem knuth_end {N y P U Y u1 u0 q1 q0 m R : Int} (P0 : 0 < P) (eY : Y = y * P) (eN : U * 18446744073709551616 + (u1 * 4294967296 + u0) = N * P) (e1 : m = U * 4294967296 + u1 - q1 * Y) (e0 : R = m * 4294967296 + u0 - q0 * Y) (R0 : 0 ≤ R) (R1 : R < Y) :
    N = (q1 * 4294967296 + q0) * y + R / P ∧ 0 ≤ R / P ∧ R / P < y := by
  have e : R = (N - (q1 * 4294967296 + q0) * y) * P := by
    have x1 : q1 * Y = q1 * y * P := by rw [eY, Int.mul_assoc]
    have x0 : q0 * Y = q0 * y * P := by rw [eY, Int.mul_assoc]
    have x2 : (q1 * 4294967296 + q0) * y * P = q1 * y * P * 4294967296 + q0 * y * P := by grind
    rw [Int.sub_mul, x2]
    rw [x1] at e1
    rw [x0] at e0
    generalize q1 * y * P = a at *
    generalize q0 * y * P = b at *
    generalize N * P = c at *
    omega
  have hR : R / P = N - (q1 * 4294967296 + q0) * y := by rw [e]; exact Int.mul_ediv_cancel _ (by omega)
  refine ⟨by rw [hR]; omega, Int.ediv_nonneg R0 (Int.le_of_lt P0), Int.ediv_lt_of_lt_mul P0 (by rw [← eY]; exact R1)⟩
end Go.Proofs.YtbddbnjhmdbkbaaGreatDoor
end
section
namespace Go.Proofs.YtbddbnjhmdbkbaaGreatDoor
open Go.RowKit

theorem tdiv_word (U y1 : Int) (U0 : 0 ≤ U) (U1 : U < 18446744073709551616) (h : 0 < y1) : IntKind.u64.wrap (U.tdiv y1) = U / y1 := by
  rw [Int.tdiv_eq_ediv_of_nonneg U0, IntKind.wrap_u64]
  have h0 := Int.ediv_nonneg U0 (Int.le_of_lt h)
  have h1 := Int.ediv_le_self y1 U0
  exact Int.emod_eq_of_lt h0 (by omega)
theorem rest_word (U y1 : Int) (U0 : 0 ≤ U) (U1 : U < 18446744073709551616) (h : 0 < y1) : IntKind.u64.wrap (U - IntKind.u64.wrap (U / y1 * y1)) = U % y1 := by
  have h1 := Int.ediv_mul_add_emod U y1
  have h2 := Int.emod_nonneg U (show y1 ≠ 0 by omega)
  have h3 := Int.emod_lt_of_pos U h
  have h4 : 0 ≤ U / y1 * y1 := Int.mul_nonneg (Int.ediv_nonneg U0 (Int.le_of_lt h)) (Int.le_of_lt h)
  rw [IntKind.wrap_u64, IntKind.wrap_u64]
  generalize U / y1 * y1 = p at *
  generalize U % y1 = m at *
  omega
theorem dig_bd {u y1 y0 d q r : Int} (n : Norm u y1 y0 d) (g : Dig u y1 y0 d q r) : q ≤ 8589934592 := by
  obtain ⟨a1, a2, a3, a4, a5, a6, a7, a8⟩ := n
  obtain ⟨g1, g2, g3, g4⟩ := g
  have h := Int.mul_le_mul_of_nonneg_left a3 g3
  generalize q * y1 = p at *
  omega
theorem half_bd (q n0 : Int) (q0 : 0 ≤ q) (q1 : q < 4294967296) (a1 : 0 ≤ n0) (a2 : n0 < 4294967296) : q * n0 < 18446744073709551616 := by
  have h1 := Int.mul_le_mul_of_nonneg_right (show q ≤ 4294967295 by omega) a1
  generalize q * n0 = p at *
  omega
theorem wrap_digit (U d1 Q Y : Int) (hY : Y < 18446744073709551616) (e2 : 0 ≤ U * 4294967296 + d1 - Q * Y) (e3 : U * 4294967296 + d1 - Q * Y < Y) : IntKind.u64.wrap (IntKind.u64.wrap (IntKind.u64.wrap (U * 4294967296) + d1) - IntKind.u64.wrap (Q * Y)) = U * 4294967296 + d1 - Q * Y := by
  simp only [IntKind.wrap_u64]
  generalize Q * Y = p at *
  omega
set_option maxHeartbeats 4000000 in
theorem div64_any (h l y : Int) (h0 : 0 < h) (hy : h < y) (y1 : y ≤ 9223372036854775808) (l0 : 0 ≤ l) (l1 : l < 18446744073709551616) (w : World) :
    Calls Tryz.prog 268 #[.int .u64 h, .int .u64 l, .int .u64 y] w fun e w' => ∃ q r, e = .returned (.tuple #[.int .u64 q, .int .u64 r]) ∧ Quo (h * 18446744073709551616 + l) y q r ∧ Below w.heap.size w w' := by
  have k1 : (y == 0) = false := beq_eq_false_iff_ne.2 (by omega)
  have k2 : ¬ y ≤ h := by omega
  have k3 : (h == 0) = false := beq_eq_false_iff_ne.2 (by omega)
  go_enter Tryz.func268, Tryz.ntmps268
  go_wp2_with fail
  refine (lead64 y (by omega) (by omega) _).mono ?_
  rintro e w1 ⟨s, rfl, s1, z0, z1, rfl⟩
  go_wp2_with fail
  obtain ⟨f1, f2, f3⟩ := shift_up h l y s (by omega) hy l0 l1 s1 z1
  generalize hU : bits .or .u64 (IntKind.u64.wrap (h * 2 ^ s)) (l / 2 ^ (64 - s)) = U at *
  have v0 := (wrap_word (l * 2 ^ s)).1
  have v1 := (wrap_word (l * 2 ^ s)).2
  generalize hv : IntKind.u64.wrap (l * 2 ^ s) = v at *
  generalize hY : y * 2 ^ s = Y at *
  have F1 : Hid _ := f1
  have HY : Hid _ := hY
  clear hU hv hY f1
  have f3' : U < 18446744073709551616 := by omega
  simp only [and_low32 Y (by omega) z1, and_low32 v v0 v1, tdiv_word U (Y / 4294967296) f2 f3' (by omega), rest_word U (Y / 4294967296) f2 f3' (by omega)]
  have nm : Norm U (Y / 4294967296) (Y % 4294967296) (v / 4294967296) := ⟨by omega, by omega, by omega, by omega, f2, by omega, by omega, by omega⟩
  obtain ⟨st, st'⟩ := dig_start nm
  have nY : Y = Y / 4294967296 * 4294967296 + Y % 4294967296 := by omega
  have NY : Hid _ := nY
  have nv : v = v / 4294967296 * 4294967296 + v % 4294967296 := by omega
  have NV : Hid _ := nv
  have b0 : 0 ≤ v % 4294967296 := by omega
  have b1 : v % 4294967296 < 4294967296 := by omega
  clear nY nv
  generalize Y / 4294967296 = n1 at *
  generalize Y % 4294967296 = n0 at *
  generalize v / 4294967296 = d1 at *
  generalize v % 4294967296 = d0 at *
  generalize U / n1 = qa at *
  generalize U % n1 = ra at *
  have a1 := nm.y00
  have a2 := nm.y01
  have a3 := nm.y10
  have a4 := nm.y11
  have a5 := nm.d0
  have a6 := nm.d1
  have n1p : 0 < n1 := by omega
  go_loop [15, 16] (fun a b => ∃ q r : Int, a = .int .u64 q ∧ b = .int .u64 r ∧ Dig U n1 n0 d1 q r ∧ r < 4294967296) (fun _ b => (4294967296 - intOf b).toNat)
  case atStart => exact ⟨qa, ra, rfl, rfl, st, st'⟩
  case round =>
    obtain ⟨q, r, rfl, rfl, hdg, hr⟩ := hrel
    have r0 := hdg.r0
    have q0 := hdg.q0
    have qm := dig_bd nm hdg
    by_cases hq : 4294967296 ≤ q
    · obtain ⟨nx, q1⟩ := dig_less nm hdg (.inl hq)
      by_cases hx : 4294967296 ≤ r + n1
      · obtain ⟨gQ1, e2, e3⟩ := dig_break nm nx hx
        have gQ0 := nx.q0
        rw [← NY.out] at e2 e3
        go_wp2_with fail
        generalize q - 1 = Q at *
        clear hdg nx qm hq hx hr r0 q0 q1 st st'
        rw [wrap_digit U d1 Q Y z1 e2 e3]
        have e4 : U * 4294967296 + d1 - Q * Y < 18446744073709551616 := by omega
        simp only [tdiv_word _ n1 e2 e4 n1p, rest_word _ n1 e2 e4 n1p]
        generalize hm : U * 4294967296 + d1 - Q * Y = m at *
        have HM : Hid _ := hm.symm
        clear hm
        have nm2 : Norm m n1 n0 d0 := ⟨a1, a2, a3, a4, e2, by rw [← NY.out]; exact e3, b0, b1⟩
        obtain ⟨sta, stb⟩ := dig_start nm2
        generalize m / n1 = qb at *
        generalize m % n1 = rb at *
        go_loop [18, 16] (fun a b => ∃ q r : Int, a = .int .u64 q ∧ b = .int .u64 r ∧ Dig m n1 n0 d0 q r ∧ r < 4294967296) (fun _ b => (4294967296 - intOf b).toNat)
        case atStart => exact ⟨qb, rb, rfl, rfl, sta, stb⟩
        case round =>
          obtain ⟨q, r, rfl, rfl, hdg, hr⟩ := hrel
          have r0 := hdg.r0
          have q0 := hdg.q0
          have qm := dig_bd nm2 hdg
          by_cases hq : 4294967296 ≤ q
          · obtain ⟨nx, q1⟩ := dig_less nm2 hdg (.inl hq)
            by_cases hx : 4294967296 ≤ r + n1
            · obtain ⟨gz1, t2, t3⟩ := dig_break nm2 nx hx
              have gz0 := nx.q0
              rw [← NY.out] at t2 t3
              go_wp2_with fail
              generalize q - 1 = qz at *
              rw [wrap_digit m d0 qz Y z1 t2 t3]
              generalize hR : m * 4294967296 + d0 - qz * Y = R at *
              have hP : (0 : Int) < 2 ^ s := Int.pow_pos (by decide)
              have en := knuth_end (N := h * 18446744073709551616 + l) (y := y) (P := 2 ^ s) (U := U) (Y := Y) (u1 := d1) (u0 := d0) (q1 := Q) (q0 := qz) (m := m) (R := R) hP HY.out.symm (by rw [← NV.out]; exact F1.out) HM.out hR.symm t2 t3
              go_ret2
              exact ⟨_, _, rfl, ⟨en.1, en.2.1, en.2.2, by omega, by omega⟩, Below.refl _ _⟩
            · go_wp2_with fail
              go_round
              case rel => exact ⟨q - 1, r + n1, rfl, rfl, nx, by omega⟩
              case measure => simp [intOf]; omega
          · have p0 : 0 ≤ q * n0 := Int.mul_nonneg q0 a1
            have p1 : q * n0 < 18446744073709551616 := half_bd q n0 q0 (by omega) a1 a2
            by_cases hc : 4294967296 * r + d0 < q * n0
            · obtain ⟨nx, q1⟩ := dig_less nm2 hdg (.inr hc)
              by_cases hx : 4294967296 ≤ r + n1
              · obtain ⟨gz1, t2, t3⟩ := dig_break nm2 nx hx
                have gz0 := nx.q0
                rw [← NY.out] at t2 t3
                go_wp2_with fail
                generalize q - 1 = qz at *
                rw [wrap_digit m d0 qz Y z1 t2 t3]
                generalize hR : m * 4294967296 + d0 - qz * Y = R at *
                have hP : (0 : Int) < 2 ^ s := Int.pow_pos (by decide)
                have en := knuth_end (N := h * 18446744073709551616 + l) (y := y) (P := 2 ^ s) (U := U) (Y := Y) (u1 := d1) (u0 := d0) (q1 := Q) (q0 := qz) (m := m) (R := R) hP HY.out.symm (by rw [← NV.out]; exact F1.out) HM.out hR.symm t2 t3
                go_ret2
                exact ⟨_, _, rfl, ⟨en.1, en.2.1, en.2.2, by omega, by omega⟩, Below.refl _ _⟩
              · go_wp2_with fail
                go_round
                case rel => exact ⟨q - 1, r + n1, rfl, rfl, nx, by omega⟩
                case measure => simp [intOf]; omega
            · obtain ⟨t2, t3⟩ := dig_done hdg (by omega)
              have gz0 := hdg.q0
              have gz1 : q < 4294967296 := by omega
              rw [← NY.out] at t2 t3
              go_wp2_with fail
              generalize q = qz at *
              rw [wrap_digit m d0 qz Y z1 t2 t3]
              generalize hR : m * 4294967296 + d0 - qz * Y = R at *
              have hP : (0 : Int) < 2 ^ s := Int.pow_pos (by decide)
              have en := knuth_end (N := h * 18446744073709551616 + l) (y := y) (P := 2 ^ s) (U := U) (Y := Y) (u1 := d1) (u0 := d0) (q1 := Q) (q0 := qz) (m := m) (R := R) hP HY.out.symm (by rw [← NV.out]; exact F1.out) HM.out hR.symm t2 t3
              go_ret2
              exact ⟨_, _, rfl, ⟨en.1, en.2.1, en.2.2, by omega, by omega⟩, Below.refl _ _⟩
      · go_wp2_with fail
        go_round
        case rel => exact ⟨q - 1, r + n1, rfl, rfl, nx, by omega⟩
        case measure => simp [intOf]; omega
    · have p0 : 0 ≤ q * n0 := Int.mul_nonneg q0 a1
      have p1 : q * n0 < 18446744073709551616 := half_bd q n0 q0 (by omega) a1 a2
      by_cases hc : 4294967296 * r + d1 < q * n0
      · obtain ⟨nx, q1⟩ := dig_less nm hdg (.inr hc)
        by_cases hx : 4294967296 ≤ r + n1
        · obtain ⟨gQ1, e2, e3⟩ := dig_break nm nx hx
          have gQ0 := nx.q0
          rw [← NY.out] at e2 e3
          go_wp2_with fail
          generalize q - 1 = Q at *
          clear hdg nx qm hq hc hx hr r0 q0 q1 p0 p1 st st'
          rw [wrap_digit U d1 Q Y z1 e2 e3]
          have e4 : U * 4294967296 + d1 - Q * Y < 18446744073709551616 := by omega
          simp only [tdiv_word _ n1 e2 e4 n1p, rest_word _ n1 e2 e4 n1p]
          generalize hm : U * 4294967296 + d1 - Q * Y = m at *
          have HM : Hid _ := hm.symm
          clear hm
          have nm2 : Norm m n1 n0 d0 := ⟨a1, a2, a3, a4, e2, by rw [← NY.out]; exact e3, b0, b1⟩
          obtain ⟨sta, stb⟩ := dig_start nm2
          generalize m / n1 = qb at *
          generalize m % n1 = rb at *
          go_loop [18, 16] (fun a b => ∃ q r : Int, a = .int .u64 q ∧ b = .int .u64 r ∧ Dig m n1 n0 d0 q r ∧ r < 4294967296) (fun _ b => (4294967296 - intOf b).toNat)
          case atStart => exact ⟨qb, rb, rfl, rfl, sta, stb⟩
          case round =>
            obtain ⟨q, r, rfl, rfl, hdg, hr⟩ := hrel
            have r0 := hdg.r0
            have q0 := hdg.q0
            have qm := dig_bd nm2 hdg
            by_cases hq : 4294967296 ≤ q
            · obtain ⟨nx, q1⟩ := dig_less nm2 hdg (.inl hq)
              by_cases hx : 4294967296 ≤ r + n1
              · obtain ⟨gz1, t2, t3⟩ := dig_break nm2 nx hx
                have gz0 := nx.q0
                rw [← NY.out] at t2 t3
                go_wp2_with fail
                generalize q - 1 = qz at *
                rw [wrap_digit m d0 qz Y z1 t2 t3]
                generalize hR : m * 4294967296 + d0 - qz * Y = R at *
                have hP : (0 : Int) < 2 ^ s := Int.pow_pos (by decide)
                have en := knuth_end (N := h * 18446744073709551616 + l) (y := y) (P := 2 ^ s) (U := U) (Y := Y) (u1 := d1) (u0 := d0) (q1 := Q) (q0 := qz) (m := m) (R := R) hP HY.out.symm (by rw [← NV.out]; exact F1.out) HM.out hR.symm t2 t3
                go_ret2
                exact ⟨_, _, rfl, ⟨en.1, en.2.1, en.2.2, by omega, by omega⟩, Below.refl _ _⟩
              · go_wp2_with fail
                go_round
                case rel => exact ⟨q - 1, r + n1, rfl, rfl, nx, by omega⟩
                case measure => simp [intOf]; omega
            · have p0 : 0 ≤ q * n0 := Int.mul_nonneg q0 a1
              have p1 : q * n0 < 18446744073709551616 := half_bd q n0 q0 (by omega) a1 a2
              by_cases hc : 4294967296 * r + d0 < q * n0
              · obtain ⟨nx, q1⟩ := dig_less nm2 hdg (.inr hc)
                by_cases hx : 4294967296 ≤ r + n1
                · obtain ⟨gz1, t2, t3⟩ := dig_break nm2 nx hx
                  have gz0 := nx.q0
                  rw [← NY.out] at t2 t3
                  go_wp2_with fail
                  generalize q - 1 = qz at *
                  rw [wrap_digit m d0 qz Y z1 t2 t3]
                  generalize hR : m * 4294967296 + d0 - qz * Y = R at *
                  have hP : (0 : Int) < 2 ^ s := Int.pow_pos (by decide)
                  have en := knuth_end (N := h * 18446744073709551616 + l) (y := y) (P := 2 ^ s) (U := U) (Y := Y) (u1 := d1) (u0 := d0) (q1 := Q) (q0 := qz) (m := m) (R := R) hP HY.out.symm (by rw [← NV.out]; exact F1.out) HM.out hR.symm t2 t3
                  go_ret2
                  exact ⟨_, _, rfl, ⟨en.1, en.2.1, en.2.2, by omega, by omega⟩, Below.refl _ _⟩
                · go_wp2_with fail
                  go_round
                  case rel => exact ⟨q - 1, r + n1, rfl, rfl, nx, by omega⟩
                  case measure => simp [intOf]; omega
              · obtain ⟨t2, t3⟩ := dig_done hdg (by omega)
                have gz0 := hdg.q0
                have gz1 : q < 4294967296 := by omega
                rw [← NY.out] at t2 t3
                go_wp2_with fail
                generalize q = qz at *
                rw [wrap_digit m d0 qz Y z1 t2 t3]
                generalize hR : m * 4294967296 + d0 - qz * Y = R at *
                have hP : (0 : Int) < 2 ^ s := Int.pow_pos (by decide)
                have en := knuth_end (N := h * 18446744073709551616 + l) (y := y) (P := 2 ^ s) (U := U) (Y := Y) (u1 := d1) (u0 := d0) (q1 := Q) (q0 := qz) (m := m) (R := R) hP HY.out.symm (by rw [← NV.out]; exact F1.out) HM.out hR.symm t2 t3
                go_ret2
                exact ⟨_, _, rfl, ⟨en.1, en.2.1, en.2.2, by omega, by omega⟩, Below.refl _ _⟩
        · go_wp2_with fail
          go_round
          case rel => exact ⟨q - 1, r + n1, rfl, rfl, nx, by omega⟩
          case measure => simp [intOf]; omega
      · obtain ⟨e2, e3⟩ := dig_done hdg (by omega)
        have gQ0 := hdg.q0
        have gQ1 : q < 4294967296 := by omega
        rw [← NY.out] at e2 e3
        go_wp2_with fail
        generalize q = Q at *
        clear hdg qm hq hc hr r0 q0 p0 p1 st st'
        rw [wrap_digit U d1 Q Y z1 e2 e3]
        have e4 : U * 4294967296 + d1 - Q * Y < 18446744073709551616 := by omega
        simp only [tdiv_word _ n1 e2 e4 n1p, rest_word _ n1 e2 e4 n1p]
        generalize hm : U * 4294967296 + d1 - Q * Y = m at *
        have HM : Hid _ := hm.symm
        clear hm
        have nm2 : Norm m n1 n0 d0 := ⟨a1, a2, a3, a4, e2, by rw [← NY.out]; exact e3, b0, b1⟩
        obtain ⟨sta, stb⟩ := dig_start nm2
        generalize m / n1 = qb at *
        generalize m % n1 = rb at *
        go_loop [18, 16] (fun a b => ∃ q r : Int, a = .int .u64 q ∧ b = .int .u64 r ∧ Dig m n1 n0 d0 q r ∧ r < 4294967296) (fun _ b => (4294967296 - intOf b).toNat)
        case atStart => exact ⟨qb, rb, rfl, rfl, sta, stb⟩
        case round =>
          obtain ⟨q, r, rfl, rfl, hdg, hr⟩ := hrel
          have r0 := hdg.r0
          have q0 := hdg.q0
          have qm := dig_bd nm2 hdg
          by_cases hq : 4294967296 ≤ q
          · obtain ⟨nx, q1⟩ := dig_less nm2 hdg (.inl hq)
            by_cases hx : 4294967296 ≤ r + n1
            · obtain ⟨gz1, t2, t3⟩ := dig_break nm2 nx hx
              have gz0 := nx.q0
              rw [← NY.out] at t2 t3
              go_wp2_with fail
              generalize q - 1 = qz at *
              rw [wrap_digit m d0 qz Y z1 t2 t3]
              generalize hR : m * 4294967296 + d0 - qz * Y = R at *
              have hP : (0 : Int) < 2 ^ s := Int.pow_pos (by decide)
              have en := knuth_end (N := h * 18446744073709551616 + l) (y := y) (P := 2 ^ s) (U := U) (Y := Y) (u1 := d1) (u0 := d0) (q1 := Q) (q0 := qz) (m := m) (R := R) hP HY.out.symm (by rw [← NV.out]; exact F1.out) HM.out hR.symm t2 t3
              go_ret2
              exact ⟨_, _, rfl, ⟨en.1, en.2.1, en.2.2, by omega, by omega⟩, Below.refl _ _⟩
            · go_wp2_with fail
              go_round
              case rel => exact ⟨q - 1, r + n1, rfl, rfl, nx, by omega⟩
              case measure => simp [intOf]; omega
          · have p0 : 0 ≤ q * n0 := Int.mul_nonneg q0 a1
            have p1 : q * n0 < 18446744073709551616 := half_bd q n0 q0 (by omega) a1 a2
            by_cases hc : 4294967296 * r + d0 < q * n0
            · obtain ⟨nx, q1⟩ := dig_less nm2 hdg (.inr hc)
              by_cases hx : 4294967296 ≤ r + n1
              · obtain ⟨gz1, t2, t3⟩ := dig_break nm2 nx hx
                have gz0 := nx.q0
                rw [← NY.out] at t2 t3
                go_wp2_with fail
                generalize q - 1 = qz at *
                rw [wrap_digit m d0 qz Y z1 t2 t3]
                generalize hR : m * 4294967296 + d0 - qz * Y = R at *
                have hP : (0 : Int) < 2 ^ s := Int.pow_pos (by decide)
                have en := knuth_end (N := h * 18446744073709551616 + l) (y := y) (P := 2 ^ s) (U := U) (Y := Y) (u1 := d1) (u0 := d0) (q1 := Q) (q0 := qz) (m := m) (R := R) hP HY.out.symm (by rw [← NV.out]; exact F1.out) HM.out hR.symm t2 t3
                go_ret2
                exact ⟨_, _, rfl, ⟨en.1, en.2.1, en.2.2, by omega, by omega⟩, Below.refl _ _⟩
              · go_wp2_with fail
                go_round
                case rel => exact ⟨q - 1, r + n1, rfl, rfl, nx, by omega⟩
                case measure => simp [intOf]; omega
            · obtain ⟨t2, t3⟩ := dig_done hdg (by omega)
              have gz0 := hdg.q0
              have gz1 : q < 4294967296 := by omega
              rw [← NY.out] at t2 t3
              go_wp2_with fail
              generalize q = qz at *
              rw [wrap_digit m d0 qz Y z1 t2 t3]
              generalize hR : m * 4294967296 + d0 - qz * Y = R at *
              have hP : (0 : Int) < 2 ^ s := Int.pow_pos (by decide)
              have en := knuth_end (N := h * 18446744073709551616 + l) (y := y) (P := 2 ^ s) (U := U) (Y := Y) (u1 := d1) (u0 := d0) (q1 := Q) (q0 := qz) (m := m) (R := R) hP HY.out.symm (by rw [← NV.out]; exact F1.out) HM.out hR.symm t2 t3
              go_ret2
              exact ⟨_, _, rfl, ⟨en.1, en.2.1, en.2.2, by omega, by omega⟩, Below.refl _ _⟩

/-- Every division by words that 'over' makes goes well. -/
theorem divOK_any (n D : Int) (hD : 0 < D) (hD' : D ≤ 9223372036854775808) : DivOK n D := by
  intro x1 x0 q1 r1 w rx hq
  by_cases h : r1 = 0
  · subst h
    rw [Int.zero_mul, Int.zero_add]
    exact div64_z x0 D rx.lo0 rx.lo1 hD w
  · exact div64_any r1 x0 D (by have := hq.r0; omega) hq.r1 hD' rx.lo0 rx.lo1 w
end Go.Proofs.YtbddbnjhmdbkbaaGreatDoor
end

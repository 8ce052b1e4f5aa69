/- The document's Add, Sub, Neg and Abs (package capstanref01): the exact number, held. -/
import Derived.Test.YtbmdocdcinfbfaaRef4
namespace Go.Proofs.Ytbmdocdcinfbfaa
open Go.RowKit

theorem below_on {w w1 w2 : World} (h : Below w.heap.size w w1) (k : Below w1.heap.size w1 w2) : Below w.heap.size w w2 := h.trans (k.mono h.size)
theorem sg_abs {neg : Bool} {l : List Int} {n : Int} (h : n = sg neg (val l)) (hd : Dgs l) : val l = n.natAbs := by
  have := (val_bd l hd).1
  cases neg
  · have h' : n = val l := h; omega
  · have h' : n = -val l := h; omega
theorem BigV.len {w : World} {neg : Bool} {s : Value} {l : List Int} {n : Int} (h : BigV w neg s l n) (k : Nat) (hn : (n.natAbs : Int) < pw k) : l.length ≤ k := len_le l h.dg h.tr k (by rw [sg_abs h.num h.dg]; exact hn)
theorem BigV.len4 {w : World} {neg : Bool} {s : Value} {l : List Int} {n : Int} (h : BigV w neg s l n) (h0 : -18446744073709551616 < n) (h1 : n < 18446744073709551616) : l.length ≤ 500 := by
  have := h.len 4 (by rw [pw4]; omega)
  omega

set_option maxHeartbeats 400000 in
theorem rAdd_any (a b : Int) (a0 : -9223372036854775808 ≤ a) (a1 : a < 9223372036854775808) (b0 : -9223372036854775808 ≤ b) (b1 : b < 9223372036854775808) (w : World) :
    Calls Try.prog 11 #[.int .i64 a, .int .i64 b] w fun e w' => e = .returned (.int .i64 (rheld (a + b))) ∧ Below w.heap.size w w' := by
  go_enter Try.func11, Try.ntmps11
  go_wp2_with fail
  refine (Of_any a a0 a1 _).mono ?_
  rintro e w1 ⟨na, sa, la, rfl, va, hb1⟩
  go_wp2_with fail
  refine (Of_any b b0 b1 _).mono ?_
  rintro e w2 ⟨nb, sb, lb, rfl, vb, hb2⟩
  go_wp2_with fail
  refine (Plus_any na nb sa sb la lb a b _ (va.later hb2) vb (va.len4 (by omega) (by omega)) (vb.len4 (by omega) (by omega))).mono ?_
  rintro e w3 ⟨nc, sc, lc, rfl, vc, hb3⟩
  go_wp2_with fail
  refine (rHeld_any nc sc lc _ _ vc).mono ?_
  rintro e w4 ⟨rfl, hb4⟩
  go_wp2_with fail
  go_ret
  exact ⟨rfl, below_on (below_on (below_on hb1 hb2) hb3) hb4⟩

set_option maxHeartbeats 400000 in
theorem rSub_any (a b : Int) (a0 : -9223372036854775808 ≤ a) (a1 : a < 9223372036854775808) (b0 : -9223372036854775808 ≤ b) (b1 : b < 9223372036854775808) (w : World) :
    Calls Try.prog 13 #[.int .i64 a, .int .i64 b] w fun e w' => e = .returned (.int .i64 (rheld (a - b))) ∧ Below w.heap.size w w' := by
  go_enter Try.func13, Try.ntmps13
  go_wp2_with fail
  refine (Of_any a a0 a1 _).mono ?_
  rintro e w1 ⟨na, sa, la, rfl, va, hb1⟩
  go_wp2_with fail
  refine (Of_any b b0 b1 _).mono ?_
  rintro e w2 ⟨nb, sb, lb, rfl, vb, hb2⟩
  go_wp2_with fail
  refine (Minus_any nb sb lb b _ vb).mono ?_
  rintro e w3 ⟨nm, sm, lm, rfl, vm, hb3⟩
  go_wp2_with fail
  refine (Plus_any na nm sa sm la lm a (-b) _ ((va.later hb2).later hb3) vm (va.len4 (by omega) (by omega)) (vm.len4 (by omega) (by omega))).mono ?_
  rintro e w4 ⟨nc, sc, lc, rfl, vc, hb4⟩
  go_wp2_with fail
  refine (rHeld_any nc sc lc _ _ vc).mono ?_
  rintro e w5 ⟨rfl, hb5⟩
  go_wp2_with fail
  go_ret
  exact ⟨rfl, below_on (below_on (below_on (below_on hb1 hb2) hb3) hb4) hb5⟩

set_option maxHeartbeats 400000 in
theorem rNeg_any (a : Int) (a0 : -9223372036854775808 ≤ a) (a1 : a < 9223372036854775808) (w : World) :
    Calls Try.prog 15 #[.int .i64 a] w fun e w' => e = .returned (.int .i64 (rheld (-a))) ∧ Below w.heap.size w w' := by
  go_enter Try.func15, Try.ntmps15
  go_wp2_with fail
  refine (Of_any a a0 a1 _).mono ?_
  rintro e w1 ⟨na, sa, la, rfl, va, hb1⟩
  go_wp2_with fail
  refine (Minus_any na sa la a _ va).mono ?_
  rintro e w3 ⟨nm, sm, lm, rfl, vm, hb3⟩
  go_wp2_with fail
  refine (rHeld_any nm sm lm _ _ vm).mono ?_
  rintro e w5 ⟨rfl, hb5⟩
  go_wp2_with fail
  go_ret
  exact ⟨rfl, below_on (below_on hb1 hb3) hb5⟩

set_option maxHeartbeats 400000 in
theorem rAbs_any (a : Int) (a0 : -9223372036854775808 ≤ a) (a1 : a < 9223372036854775808) (w : World) :
    Calls Try.prog 17 #[.int .i64 a] w fun e w' => e = .returned (.int .i64 (rheld a.natAbs)) ∧ Below w.heap.size w w' := by
  have hfd : ∀ (b : Bool) (a : Option Addr) (n c : Nat) (w : World), (Instr.field 39 (.agg #[.bool b, .slice a n c]) 1).run Try.prog w = .ok (.slice a n c) w := fun _ _ _ _ _ => by kernel_rfl
  go_enter Try.func17, Try.ntmps17
  go_wp2_with fail
  refine (Of_any a a0 a1 _).mono ?_
  rintro e w1 ⟨na, sa, la, rfl, va, hb1⟩
  have VA := va
  obtain ⟨⟨aa, ca, rfl, _⟩, da, ta, ea⟩ := va
  have EA := sg_abs ea da
  have HE : Hid _ := EA
  clear EA ea
  go_wp2_with fail
  refine (rHeld_any false _ la _ _ ⟨VA.isD, da, ta, HE.out.symm⟩).mono ?_
  rintro e w5 ⟨rfl, hb5⟩
  go_wp2_with fail
  go_ret
  exact ⟨rfl, below_on hb1 hb5⟩
end Go.Proofs.Ytbmdocdcinfbfaa

/- Package cron: Formed. -/
import Derived.Test.YtddinknnaakmmabDoorCroE
namespace Go.Proofs.YtddinknnaakmmabDoor
open Go.RowKit

def Cr.get (c : Cr) : Nat → Nat
  | 0 => c.a | 1 => c.b | 2 => c.c | 3 => c.d | _ => c.e
structure Cr.Fits (x : Cr) : Prop where
  a : x.a < 18446744073709551616
  b : x.b < 18446744073709551616
  c : x.c < 18446744073709551616
  d : x.d < 18446744073709551616
  e : x.e < 18446744073709551616
theorem Cr.Fits.get {c : Cr} (h : c.Fits) (i : Nat) : c.get i < 18446744073709551616 := by
  unfold Cr.get
  split
  · exact h.a
  · exact h.b
  · exact h.c
  · exact h.d
  · exact h.e
/-- The set has numbers of the field, and no others. -/
def okB (S lo hi : Nat) : Bool := decide (S ≠ 0) && (List.range 64).all fun i => !S.testBit i || (decide (lo ≤ i) && decide (i ≤ hi))
theorem okB_iff (S lo hi : Nat) : okB S lo hi = true ↔ S ≠ 0 ∧ ∀ i, i < 64 → S.testBit i = true → lo ≤ i ∧ i ≤ hi := by
  unfold okB
  rw [Bool.and_eq_true, decide_eq_true_eq, List.all_eq_true]
  refine and_congr Iff.rfl ⟨fun h i hi hb => ?_, fun h i hi => ?_⟩
  · have := h i (List.mem_range.2 hi)
    rw [hb] at this
    simpa using this
  · cases hb : S.testBit i with
    | false => rfl
    | true => have := h i (List.mem_range.1 hi) hb; simp [this.1, this.2]
def cfB (c : Cr) : Bool := (List.range 5).all fun i => okB (c.get i) (lowN i) (highN i)
theorem cfB_iff (c : Cr) : cfB c = true ↔ ∀ i, i < 5 → okB (c.get i) (lowN i) (highN i) = true := by
  unfold cfB
  rw [List.all_eq_true]
  exact ⟨fun h i hi => h i (List.mem_range.2 hi), fun h i hi => h i (List.mem_range.1 hi)⟩
theorem cfB_no {c : Cr} {i : Nat} (hi : i < 5) (h : okB (c.get i) (lowN i) (highN i) = false) : cfB c = false := by
  cases hc : cfB c with
  | false => rfl
  | true => rw [(cfB_iff c).1 hc i hi] at h; cases h
theorem sub_bit (A i : Nat) (hA : A < 18446744073709551616) : (18446744073709551615 - A).testBit i = (decide (i < 64) && !A.testBit i) := by
  have e : 18446744073709551615 - A = 2 ^ 64 - (A + 1) := by omega
  rw [e, Nat.testBit_two_pow_sub_succ (show A < 2 ^ 64 from hA)]
theorem okB_and (S lo hi : Nat) (hS : S < 18446744073709551616) : okB S lo hi = (decide (S ≠ 0) && decide (S &&& (18446744073709551615 - evS lo hi 1) = 0)) := by
  unfold okB
  congr 1
  rw [Bool.eq_iff_iff, List.all_eq_true, decide_eq_true_eq]
  constructor
  · intro h
    apply Nat.eq_of_testBit_eq
    intro i
    unfold evS
    rw [Nat.testBit_and, sub_bit _ _ (evUp_lt _ _ _), Nat.zero_testBit, evUp_bit]
    by_cases hi64 : i < 64
    · have := h i (List.mem_range.2 hi64)
      cases hb : S.testBit i with
      | false => rfl
      | true =>
        rw [hb] at this
        simp at this
        simp [hi64, this.1, Nat.lt_succ_of_le this.2, Nat.mod_one]
    · rw [Nat.testBit_lt_two_pow (Nat.lt_of_lt_of_le (show S < 2 ^ 64 from hS) (Nat.pow_le_pow_right (by decide) (by omega)))]
      rfl
  · intro h i hi64
    have hi64 := List.mem_range.1 hi64
    have hb := congrArg (fun x => Nat.testBit x i) h
    simp only [Nat.testBit_and, Nat.zero_testBit] at hb
    unfold evS at hb
    rw [sub_bit _ _ (evUp_lt _ _ _), evUp_bit] at hb
    cases hb2 : S.testBit i with
    | false => rfl
    | true =>
      rw [hb2] at hb
      simp [hi64, Nat.mod_one] at hb
      simp
      omega
theorem all_any (lo hi : Nat) (h : lo ≤ hi) (hh : hi < 64) (w : World) :
    Calls Tryd.prog 21 #[fldV lo hi] w fun e w' => e = .returned (.int .u64 (evS lo hi 1 : Nat)) ∧ Below w.heap.size w w' := by
  have hv := every_any lo hi 1 h hh (by decide) (by decide)
  go_enter Tryd.func21, Tryd.ntmps21
  go_wp2_with fail
  refine (hv _).mono ?_
  rintro e w1 ⟨rfl, rfl⟩
  go_wp2_with fail
  go_ret
  exact ⟨rfl, (Below.refl _ _).alloc (Nat.le_refl _) _⟩
theorem idx_set (c : Cr) (k : Nat) (h : k < 5) (w : World) : (Instr.index 39 (.agg (u5 c.a c.b c.c c.d c.e).toArray) (.int .i64 k)).run Tryd.prog w = .ok (.int .u64 (c.get k : Nat)) w := by
  rcases (show k = 0 ∨ k = 1 ∨ k = 2 ∨ k = 3 ∨ k = 4 by omega) with rfl | rfl | rfl | rfl | rfl
  all_goals kernel_rfl
theorem FldAt.row {w : World} (h : FldAt w) (i : Nat) (hi : i < 5) : w.cell? ⟨0, i * 2, none⟩ = some (.int .i64 (lowN i : Nat)) ∧ w.cell? ⟨0, i * 2 + 1, none⟩ = some (.int .i64 (highN i : Nat)) := by
  rcases (show i = 0 ∨ i = 1 ∨ i = 2 ∨ i = 3 ∨ i = 4 by omega) with rfl | rfl | rfl | rfl | rfl
  all_goals exact ⟨h.cell _ _ rfl, h.cell _ _ rfl⟩
def FormedPost (c : Cr) (w : World) (e : Ending) (w' : World) : Prop := e = .returned (.bool (cfB c)) ∧ Below w.heap.size w w'
set_option maxHeartbeats 4000000 in
theorem Formed_any (c : Cr) (fc : c.Fits) (w : World) (hF : FldAt w) :
    Calls Tryd.prog 14 #[cronV c] w (FormedPost c w) := by
  obtain ⟨cb, l0⟩ := one_box w 24 (u5 c.a c.b c.c c.d c.e)
  obtain ⟨o0, o1, o2, o3, o4, _⟩ := cb.five
  have hs := sets_any c.a c.b c.c c.d c.e
  go_enter Tryd.func14, Tryd.ntmps14
  go_wp2_with fail
  refine (hs _).mono ?_
  rintro e w1 ⟨rfl, hb1⟩
  go_wp2_with fail
  have hF1 := (hF.later l0).later hb1
  have bl1 := l0.trans (hb1.mono l0.size)
  go_loopw [7] (fun p wr => ∃ i : Nat, p = .int .i64 i ∧ i ≤ 5 ∧ (∀ j, j < i → okB (c.get j) (lowN j) (highN j) = true) ∧ FldAt wr ∧ Below w.heap.size w wr) (fun p _ => (5 - intOf p).toNat)
  case atStart => exact ⟨0, rfl, by decide, fun j hj => absurd hj (by omega), hF1, bl1⟩
  case round =>
    obtain ⟨i, rfl, hi, hok, hFr, bl⟩ := hrel
    by_cases hlt : i < 5
    · have hix := idx_set c i hlt
      have k1 : (i : Int) < 5 := by omega
      have hfi := fc.get i
      have hall := fun wx => all_any (lowN i) (highN i) (low_high i) (highN_lt i) wx
      have hand := u64_andNot_nat (c.get i) (evS (lowN i) (highN i) 1) hfi (evUp_lt _ _ _)
      have hokb := okB_and (c.get i) (lowN i) (highN i) hfi
      obtain ⟨q0, q1⟩ := hFr.row i hlt
      by_cases h0 : c.get i = 0
      · have hno := cfB_no (c := c) hlt (by rw [hokb, h0]; rfl)
        have h0' : (((c.get i : Nat) : Int) == 0) = true := beq_iff_eq.2 (by omega)
        have HNO : Hid _ := hno
        clear hokb hno hand hok h0
        generalize c.get i = S at *
        generalize lowN i = lo at *
        generalize highN i = hi5 at *
        go_wp2_with fail
        go_ret
        exact ⟨by rw [HNO.out]; rfl, bl⟩
      · have h0' : (((c.get i : Nat) : Int) == 0) = false := beq_eq_false_iff_ne.2 (by omega)
        by_cases hx : c.get i &&& (18446744073709551615 - evS (lowN i) (highN i) 1) = 0
        · have hk : okB (c.get i) (lowN i) (highN i) = true := by rw [hokb]; simp [h0, hx]
          have hok' : ∀ j, j < i + 1 → okB (c.get j) (lowN j) (highN j) = true := fun j hj => by
            rcases Nat.lt_or_ge j i with h | h
            · exact hok j h
            · obtain rfl : j = i := by omega
              exact hk
          rw [hx] at hand
          have HX : Hid _ := hok'
          clear hok hk hokb hok' hx h0
          generalize evS (lowN i) (highN i) 1 = A at *
          generalize c.get i = S at *
          generalize lowN i = lo at *
          generalize highN i = hi5 at *
          go_wp2_with fail
          refine (hall _).mono ?_
          rintro e w2 ⟨rfl, hb2⟩
          go_wp2_with fail
          exact ⟨⟨i + 1, by go_num, by omega, HX.out, hFr.later hb2, bl.trans (hb2.mono bl.size)⟩, by simp [intOf]; omega⟩
        · have hno := cfB_no (c := c) hlt (by rw [hokb]; simp [hx])
          have hx' : ((((c.get i &&& (18446744073709551615 - evS (lowN i) (highN i) 1) : Nat) : Int) != 0)) = true := bne_iff_ne.2 (by omega)
          have HNO : Hid _ := hno
          clear hok hokb hno hx h0
          generalize c.get i &&& (18446744073709551615 - evS (lowN i) (highN i) 1) = X at *
          generalize evS (lowN i) (highN i) 1 = A at *
          generalize c.get i = S at *
          generalize lowN i = lo at *
          generalize highN i = hi5 at *
          go_wp2_with fail
          refine (hall _).mono ?_
          rintro e w2 ⟨rfl, hb2⟩
          go_wp2_with fail
          go_ret
          exact ⟨by rw [HNO.out]; rfl, bl.trans (hb2.mono bl.size)⟩
    · obtain rfl : i = 5 := by omega
      have hyes := (cfB_iff c).2 hok
      have HNO : Hid _ := hyes
      clear hyes hok
      go_wp2_with fail
      go_ret
      exact ⟨by rw [HNO.out]; rfl, bl⟩
end Go.Proofs.YtddinknnaakmmabDoor

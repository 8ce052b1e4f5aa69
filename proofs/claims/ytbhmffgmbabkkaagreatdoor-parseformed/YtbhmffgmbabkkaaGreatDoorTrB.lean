/- Package tree: head.plain, span, leaf.formed. -/
import Derived.Test.YtbhmffgmbabkkaaGreatDoorMgU
import Derived.Deep.CutRange
namespace Go.Proofs.YtbhmffgmbabkkaaGreatDoor
open Go.RowKit

theorem ret_bool {a b : Bool} (h : a = b) : Ending.returned (.bool a) = .returned (.bool b) := by rw [h]
theorem plain_c (k : Int) (s : ByteArray) (n m lo hi : Int) (w : World) : Calls Tryz.prog 125 #[.agg #[.int .i64 k, .string s, .int .i64 n, .int .i64 m], .int .i64 lo, .int .i64 hi] w fun e w' => e = .returned (.bool (plainB k s n m lo hi)) ∧ Below w.heap.size w w' := by
  go_enter Tryz.func125, Tryz.ntmps125
  go_wp2_with fail
  all_goals go_ret
  all_goals refine ⟨?_, (Below.refl _ _).alloc (Nat.le_refl _) _⟩
  all_goals refine ret_bool (Bool.eq_iff_iff.2 ?_)
  all_goals simp only [plainB, bareB, Bool.and_eq_true, decide_eq_true_eq, beq_iff_eq, Bool.false_eq_true, false_iff, not_and]
  all_goals first | omega | (simp [*]; done) | (intro a b c; simp_all; done)
theorem span_c (n : Int) (w : World) : Calls Tryz.prog 143 #[.int .i64 n] w fun e w' => e = .returned (.bool (spanB n)) ∧ w' = w := by
  go_enter Tryz.func143, Tryz.ntmps143
  go_wp2_with fail
  all_goals go_ret
  all_goals refine ⟨?_, rfl⟩
  all_goals refine ret_bool (Bool.eq_iff_iff.2 ?_)
  all_goals simp only [spanB, Bool.and_eq_true, decide_eq_true_eq, Bool.false_eq_true, false_iff]
  all_goals omega
theorem brk_ok : ∀ b ∈ brk, b.toNat < 128 := by decide
theorem quo_ok : ∀ b ∈ quo, b.toNat < 128 := by decide
theorem leaf_k1 (k : Int) (s : ByteArray) (n m : Int) (hz : s.size ≤ 562949953421312) (w : World) (hT : TabsAt w) (hk : k = 1) : Calls Tryz.prog 124 #[.agg #[.int .i64 k, .string s, .int .i64 n, .int .i64 m]] w fun e w' => e = .returned (.bool (leafB k s n m)) ∧ Below w.heap.size w w' := by
  have HN := hid2 (fun wx => isName_c s hz wx)
  have HB := hid2 (fun wx hx => textWithout_c s brk brk_ok (by decide) (by decide) hz wx hx)
  have HQ := hid2 (fun wx hx => textWithout_c s quo quo_ok (by decide) (by decide) hz wx hx)
  have HT : Hid (∀ o, TabsAt (w.alloc o)) := fun o => hT.next ((Below.refl _ _).alloc (Nat.le_refl _) _)
  clear hT hz
  subst hk
  go_enter Tryz.func124, Tryz.ntmps124
  go_wp2_with (go_at_call 142; refine Calls.mono (HB.out _ (HT.out _)) ?_; rintro e w1 ⟨rfl, b1⟩)
  all_goals go_ret
  all_goals refine ⟨ret_bool ?_, by first | exact (Below.refl _ _).alloc (Nat.le_refl _) _ | exact below_on ((Below.refl _ _).alloc (Nat.le_refl _) _) b1 (by simp)⟩
  all_goals (unfold leafB; simp [*] <;> omega)
theorem leaf_k2 (k : Int) (s : ByteArray) (n m : Int) (hz : s.size ≤ 562949953421312) (w : World) (hT : TabsAt w) (hk : k = 2) : Calls Tryz.prog 124 #[.agg #[.int .i64 k, .string s, .int .i64 n, .int .i64 m]] w fun e w' => e = .returned (.bool (leafB k s n m)) ∧ Below w.heap.size w w' := by
  have HN := hid2 (fun wx => isName_c s hz wx)
  have HB := hid2 (fun wx hx => textWithout_c s brk brk_ok (by decide) (by decide) hz wx hx)
  have HQ := hid2 (fun wx hx => textWithout_c s quo quo_ok (by decide) (by decide) hz wx hx)
  have HT : Hid (∀ o, TabsAt (w.alloc o)) := fun o => hT.next ((Below.refl _ _).alloc (Nat.le_refl _) _)
  clear hT hz
  subst hk
  go_enter Tryz.func124, Tryz.ntmps124
  go_wp2_with (go_at_call 92; refine Calls.mono (HN.out _) ?_; rintro e w1 ⟨rfl, b1⟩)
  all_goals go_ret
  all_goals refine ⟨ret_bool ?_, by first | exact (Below.refl _ _).alloc (Nat.le_refl _) _ | exact below_on ((Below.refl _ _).alloc (Nat.le_refl _) _) b1 (by simp)⟩
  all_goals (unfold leafB; simp [*] <;> omega)
theorem leaf_k6 (k : Int) (s : ByteArray) (n m : Int) (hz : s.size ≤ 562949953421312) (w : World) (hT : TabsAt w) (hk : k = 6) : Calls Tryz.prog 124 #[.agg #[.int .i64 k, .string s, .int .i64 n, .int .i64 m]] w fun e w' => e = .returned (.bool (leafB k s n m)) ∧ Below w.heap.size w w' := by
  have HN := hid2 (fun wx => isName_c s hz wx)
  have HB := hid2 (fun wx hx => textWithout_c s brk brk_ok (by decide) (by decide) hz wx hx)
  have HQ := hid2 (fun wx hx => textWithout_c s quo quo_ok (by decide) (by decide) hz wx hx)
  have HT : Hid (∀ o, TabsAt (w.alloc o)) := fun o => hT.next ((Below.refl _ _).alloc (Nat.le_refl _) _)
  clear hT hz
  subst hk
  go_enter Tryz.func124, Tryz.ntmps124
  go_wp2_with (go_at_call 142; refine Calls.mono (HQ.out _ (HT.out _)) ?_; rintro e w1 ⟨rfl, b1⟩)
  all_goals go_ret
  all_goals refine ⟨ret_bool ?_, by first | exact (Below.refl _ _).alloc (Nat.le_refl _) _ | exact below_on ((Below.refl _ _).alloc (Nat.le_refl _) _) b1 (by simp)⟩
  all_goals (unfold leafB; simp [*] <;> omega)
theorem leaf_k7 (k : Int) (s : ByteArray) (n m : Int) (hz : s.size ≤ 562949953421312) (w : World) (hT : TabsAt w) (hk : k = 7) : Calls Tryz.prog 124 #[.agg #[.int .i64 k, .string s, .int .i64 n, .int .i64 m]] w fun e w' => e = .returned (.bool (leafB k s n m)) ∧ Below w.heap.size w w' := by
  have HN := hid2 (fun wx => isName_c s hz wx)
  have HB := hid2 (fun wx hx => textWithout_c s brk brk_ok (by decide) (by decide) hz wx hx)
  have HQ := hid2 (fun wx hx => textWithout_c s quo quo_ok (by decide) (by decide) hz wx hx)
  have HT : Hid (∀ o, TabsAt (w.alloc o)) := fun o => hT.next ((Below.refl _ _).alloc (Nat.le_refl _) _)
  clear hT hz
  subst hk
  go_enter Tryz.func124, Tryz.ntmps124
  go_wp2_with (first | (go_at_call 92; refine Calls.mono (HN.out _) ?_; rintro e w1 ⟨rfl, b1⟩) | (go_at_call 143; refine Calls.mono (span_c _ _) ?_; rintro e w1 ⟨rfl, rfl⟩))
  all_goals go_ret
  all_goals refine ⟨ret_bool ?_, by first | exact (Below.refl _ _).alloc (Nat.le_refl _) _ | exact below_on ((Below.refl _ _).alloc (Nat.le_refl _) _) b1 (by simp)⟩
  all_goals (unfold leafB; simp [*] <;> omega)
theorem leaf_k8 (k : Int) (s : ByteArray) (n m : Int) (hz : s.size ≤ 562949953421312) (w : World) (hT : TabsAt w) (hk : k = 8) : Calls Tryz.prog 124 #[.agg #[.int .i64 k, .string s, .int .i64 n, .int .i64 m]] w fun e w' => e = .returned (.bool (leafB k s n m)) ∧ Below w.heap.size w w' := by
  have HN := hid2 (fun wx => isName_c s hz wx)
  have HB := hid2 (fun wx hx => textWithout_c s brk brk_ok (by decide) (by decide) hz wx hx)
  have HQ := hid2 (fun wx hx => textWithout_c s quo quo_ok (by decide) (by decide) hz wx hx)
  have HT : Hid (∀ o, TabsAt (w.alloc o)) := fun o => hT.next ((Below.refl _ _).alloc (Nat.le_refl _) _)
  clear hT hz
  subst hk
  go_enter Tryz.func124, Tryz.ntmps124
  go_wp2_with (first | (go_at_call 92; refine Calls.mono (HN.out _) ?_; rintro e w1 ⟨rfl, b1⟩) | (go_at_call 143; refine Calls.mono (span_c _ _) ?_; rintro e w1 ⟨rfl, rfl⟩))
  all_goals go_ret
  all_goals refine ⟨ret_bool ?_, by first | exact (Below.refl _ _).alloc (Nat.le_refl _) _ | exact below_on ((Below.refl _ _).alloc (Nat.le_refl _) _) b1 (by simp)⟩
  all_goals (unfold leafB; simp [*] <;> omega)
theorem leaf_k9 (k : Int) (s : ByteArray) (n m : Int) (hz : s.size ≤ 562949953421312) (w : World) (hT : TabsAt w) (hk : k = 9) : Calls Tryz.prog 124 #[.agg #[.int .i64 k, .string s, .int .i64 n, .int .i64 m]] w fun e w' => e = .returned (.bool (leafB k s n m)) ∧ Below w.heap.size w w' := by
  have HN := hid2 (fun wx => isName_c s hz wx)
  have HB := hid2 (fun wx hx => textWithout_c s brk brk_ok (by decide) (by decide) hz wx hx)
  have HQ := hid2 (fun wx hx => textWithout_c s quo quo_ok (by decide) (by decide) hz wx hx)
  have HT : Hid (∀ o, TabsAt (w.alloc o)) := fun o => hT.next ((Below.refl _ _).alloc (Nat.le_refl _) _)
  clear hT hz
  subst hk
  go_enter Tryz.func124, Tryz.ntmps124
  go_wp2_with (first | (go_at_call 92; refine Calls.mono (HN.out _) ?_; rintro e w1 ⟨rfl, b1⟩) | (go_at_call 143; refine Calls.mono (span_c _ _) ?_; rintro e w1 ⟨rfl, rfl⟩))
  all_goals go_ret
  all_goals refine ⟨ret_bool ?_, by first | exact (Below.refl _ _).alloc (Nat.le_refl _) _ | exact below_on ((Below.refl _ _).alloc (Nat.le_refl _) _) b1 (by simp)⟩
  all_goals (unfold leafB; simp [*] <;> omega)
theorem leaf_k10 (k : Int) (s : ByteArray) (n m : Int) (hz : s.size ≤ 562949953421312) (w : World) (hT : TabsAt w) (hk : k = 10) : Calls Tryz.prog 124 #[.agg #[.int .i64 k, .string s, .int .i64 n, .int .i64 m]] w fun e w' => e = .returned (.bool (leafB k s n m)) ∧ Below w.heap.size w w' := by
  have HN := hid2 (fun wx => isName_c s hz wx)
  have HB := hid2 (fun wx hx => textWithout_c s brk brk_ok (by decide) (by decide) hz wx hx)
  have HQ := hid2 (fun wx hx => textWithout_c s quo quo_ok (by decide) (by decide) hz wx hx)
  have HT : Hid (∀ o, TabsAt (w.alloc o)) := fun o => hT.next ((Below.refl _ _).alloc (Nat.le_refl _) _)
  clear hT hz
  subst hk
  go_enter Tryz.func124, Tryz.ntmps124
  go_wp2_with (first | (go_at_call 92; refine Calls.mono (HN.out _) ?_; rintro e w1 ⟨rfl, b1⟩) | (go_at_call 143; refine Calls.mono (span_c _ _) ?_; rintro e w1 ⟨rfl, rfl⟩))
  all_goals go_ret
  all_goals refine ⟨ret_bool ?_, by first | exact (Below.refl _ _).alloc (Nat.le_refl _) _ | exact below_on ((Below.refl _ _).alloc (Nat.le_refl _) _) b1 (by simp)⟩
  all_goals (unfold leafB; simp [*] <;> omega)
theorem leaf_k11 (k : Int) (s : ByteArray) (n m : Int) (hz : s.size ≤ 562949953421312) (w : World) (hT : TabsAt w) (hk : k = 11) : Calls Tryz.prog 124 #[.agg #[.int .i64 k, .string s, .int .i64 n, .int .i64 m]] w fun e w' => e = .returned (.bool (leafB k s n m)) ∧ Below w.heap.size w w' := by
  have HN := hid2 (fun wx => isName_c s hz wx)
  have HB := hid2 (fun wx hx => textWithout_c s brk brk_ok (by decide) (by decide) hz wx hx)
  have HQ := hid2 (fun wx hx => textWithout_c s quo quo_ok (by decide) (by decide) hz wx hx)
  have HT : Hid (∀ o, TabsAt (w.alloc o)) := fun o => hT.next ((Below.refl _ _).alloc (Nat.le_refl _) _)
  clear hT hz
  subst hk
  go_enter Tryz.func124, Tryz.ntmps124
  go_wp2_with (first | (go_at_call 92; refine Calls.mono (HN.out _) ?_; rintro e w1 ⟨rfl, b1⟩) | (go_at_call 143; refine Calls.mono (span_c _ _) ?_; rintro e w1 ⟨rfl, rfl⟩))
  all_goals go_ret
  all_goals refine ⟨ret_bool ?_, by first | exact (Below.refl _ _).alloc (Nat.le_refl _) _ | exact below_on ((Below.refl _ _).alloc (Nat.le_refl _) _) b1 (by simp)⟩
  all_goals (unfold leafB; simp [*] <;> omega)
theorem leaf_k12 (k : Int) (s : ByteArray) (n m : Int) (hz : s.size ≤ 562949953421312) (w : World) (hT : TabsAt w) (hk : k = 12) : Calls Tryz.prog 124 #[.agg #[.int .i64 k, .string s, .int .i64 n, .int .i64 m]] w fun e w' => e = .returned (.bool (leafB k s n m)) ∧ Below w.heap.size w w' := by
  have HN := hid2 (fun wx => isName_c s hz wx)
  have HB := hid2 (fun wx hx => textWithout_c s brk brk_ok (by decide) (by decide) hz wx hx)
  have HQ := hid2 (fun wx hx => textWithout_c s quo quo_ok (by decide) (by decide) hz wx hx)
  have HT : Hid (∀ o, TabsAt (w.alloc o)) := fun o => hT.next ((Below.refl _ _).alloc (Nat.le_refl _) _)
  clear hT hz
  subst hk
  go_enter Tryz.func124, Tryz.ntmps124
  go_wp2_with (first | (go_at_call 92; refine Calls.mono (HN.out _) ?_; rintro e w1 ⟨rfl, b1⟩) | (go_at_call 143; refine Calls.mono (span_c _ _) ?_; rintro e w1 ⟨rfl, rfl⟩))
  all_goals go_ret
  all_goals refine ⟨ret_bool ?_, by first | exact (Below.refl _ _).alloc (Nat.le_refl _) _ | exact below_on ((Below.refl _ _).alloc (Nat.le_refl _) _) b1 (by simp)⟩
  all_goals (unfold leafB; simp [*] <;> omega)
theorem leaf_else (k : Int) (s : ByteArray) (n m : Int) (w : World) (h1 : k ≠ 1) (h2 : k ≠ 2) (h6 : k ≠ 6) (h7 : ¬ (7 ≤ k ∧ k ≤ 12)) : Calls Tryz.prog 124 #[.agg #[.int .i64 k, .string s, .int .i64 n, .int .i64 m]] w fun e w' => e = .returned (.bool (leafB k s n m)) ∧ Below w.heap.size w w' := by
  have q1 : (k == 1) = false := beq_eq_false_iff_ne.2 h1
  have q2 : (k == 2) = false := beq_eq_false_iff_ne.2 h2
  have q6 : (k == 6) = false := beq_eq_false_iff_ne.2 h6
  have q7 : (k == 7) = false := beq_eq_false_iff_ne.2 (by omega)
  have q8 : (k == 8) = false := beq_eq_false_iff_ne.2 (by omega)
  have q9 : (k == 9) = false := beq_eq_false_iff_ne.2 (by omega)
  have q10 : (k == 10) = false := beq_eq_false_iff_ne.2 (by omega)
  have q11 : (k == 11) = false := beq_eq_false_iff_ne.2 (by omega)
  have q12 : (k == 12) = false := beq_eq_false_iff_ne.2 (by omega)
  have HL : Hid (leafB k s n m = plainB k s n m 3 5) := by
    show _ = _
    unfold leafB
    rw [if_neg h1, if_neg h2, if_neg h6, if_neg (by omega), if_neg (by omega)]
  rw [HL.out]
  clear h1 h2 h6 h7
  go_enter Tryz.func124, Tryz.ntmps124
  go_wp2_with (go_at_call 125; refine Calls.mono (plain_c _ _ _ _ _ _ _) ?_; rintro e w1 ⟨rfl, b1⟩)
  go_ret
  exact ⟨rfl, below_on ((Below.refl _ _).alloc (Nat.le_refl _) _) b1 (by simp)⟩
theorem leaf_c (k : Int) (s : ByteArray) (n m : Int) (hz : s.size ≤ 562949953421312) (w : World) (hT : TabsAt w) : Calls Tryz.prog 124 #[.agg #[.int .i64 k, .string s, .int .i64 n, .int .i64 m]] w fun e w' => e = .returned (.bool (leafB k s n m)) ∧ Below w.heap.size w w' := by
  by_cases h1 : k = 1
  · exact leaf_k1 k s n m hz w hT h1
  by_cases h2 : k = 2
  · exact leaf_k2 k s n m hz w hT h2
  by_cases h6 : k = 6
  · exact leaf_k6 k s n m hz w hT h6
  by_cases h7 : k = 7
  · exact leaf_k7 k s n m hz w hT h7
  by_cases h8 : k = 8
  · exact leaf_k8 k s n m hz w hT h8
  by_cases h9 : k = 9
  · exact leaf_k9 k s n m hz w hT h9
  by_cases h10 : k = 10
  · exact leaf_k10 k s n m hz w hT h10
  by_cases h11 : k = 11
  · exact leaf_k11 k s n m hz w hT h11
  by_cases h12 : k = 12
  · exact leaf_k12 k s n m hz w hT h12
  exact leaf_else k s n m w h1 h2 h6 (by omega)
end Go.Proofs.YtbhmffgmbabkkaaGreatDoor

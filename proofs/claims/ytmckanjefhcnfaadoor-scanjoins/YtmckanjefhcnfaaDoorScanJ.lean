/- ScanJoins: the walk. -/
import Derived.Test.YtmckanjefhcnfaaDoorScW
namespace Go.Proofs.YtmckanjefhcnfaaDoor
open Go.RowKit

theorem chkV_any (s : ByteArray) : ∃ (n : Int) (p : Nat) (e : Int), chkV s = .tuple #[.int .i64 n, .int .i64 (p : Nat), .int .i64 e] ∧ p ≤ s.size := ⟨_, _, _, rfl, sd_in 10 11 s 0 (by omega)⟩
theorem chkV_bad {s : ByteArray} (h : ¬ (sd 10 11 s (rs s 0)).2 = 0) : ∃ (p : Nat) (e : Int), chkV s = .tuple #[.int .i64 0, .int .i64 (p : Nat), .int .i64 e] ∧ e ≠ 0 := ⟨_, _, chkV_no (by rfl) h, h⟩

set_option maxHeartbeats 1000000 in
set_option maxRecDepth 10000 in
theorem scanJoins_walk (a b : ByteArray) (ha : a.size ≤ 140737488355328) (hb : b.size ≤ 140737488355328) (w : World) (hT : TabsAt w) : Calls Tryd.prog 7 #[.string a, .string b] w fun e w' => e = .returned (.bool true) ∧ Below w.heap.size w w' := by
  have hab : (a ++ b).size = a.size + b.size := ByteArray.size_append
  have A := awake_c w hT
  have C1 := fun w' hb => check_c a (by omega) w' (hT.next (w' := w') hb)
  have C2 := fun w' hb => check_c b (by omega) w' (hT.next (w' := w') hb)
  have C3 := fun w' hb => check_c (a ++ b) (by omega) w' (hT.next (w' := w') hb)
  have W1 := fun w' hb => where_c a (a.size : Nat) (by omega) w' (hT.next (w' := w') hb)
  have W2 := fun w' hb => where_c (a ++ b) (a.size : Nat) (by omega) w' (hT.next (w' := w') hb)
  clear hT
  by_cases h1 : (sd 10 11 a (rs a 0)).2 = 0
  · rw [chkV_ok h1] at C1
    by_cases h2 : (sd 10 11 b (rs b 0)).2 = 0
    · rw [chkV_ok h2] at C2
      have hj := join_said (u := 10) (k := 11) (by decide) a b 0 (by omega) h1
      rw [h2] at hj
      rw [chkV_ok hj.1, hj.2] at C3
      have hw := join_where (u := 10) (k := 11) (by decide) a b 3 0 (by omega) h1 1 1
      have e1 : whrT a (a.size : Nat) = whr (a.size : Nat) a.size 3 (rs a 0) 1 1 := if_pos h1
      have e2 : whrT (a ++ b) (a.size : Nat) = whr (a.size : Nat) a.size 3 (rs a 0) 1 1 := (if_pos hj.1).trans hw.1
      rw [e1] at W1
      rw [e2] at W2
      have hz := hw.2
      generalize whr (a.size : Nat) a.size 3 (rs a 0) 1 1 = v at *
      obtain ⟨l, c, z⟩ := v
      simp only [] at hz
      subst hz
      have n1 := rs_length0 a
      have n2 := rs_length0 b
      generalize (rs a 0).length = m1 at *
      generalize (rs b 0).length = m2 at *
      have l3b : ¬ ((a.size : Int) + (b.size : Int) < 0) := by omega
      have hs : IntKind.i64.wrap ((m1 : Int) + (m2 : Int)) = ((m1 + m2 : Nat) : Int) := by rw [IntKind.wrap_i64]; omega
      clear h1 h2 hj hw e1 e2
      go_enter Tryd.func7, Tryd.ntmps7
      go_wp2_with fail
      refine A.mono ?_
      rintro e w1 ⟨rfl, b1⟩
      clear A
      go_wp2_with fail
      refine (C1 _ b1).mono ?_
      rintro e w2 ⟨rfl, b2⟩
      replace b2 := below_on b1 b2 b1.size
      clear b1 C1
      go_wp2_with fail
      refine (C2 _ b2).mono ?_
      rintro e w3 ⟨rfl, b3⟩
      replace b3 := below_on b2 b3 b2.size
      clear b2 C2
      go_wp2_with fail
      refine (C3 _ b3).mono ?_
      rintro e w4 ⟨rfl, b4⟩
      replace b4 := below_on b3 b4 b3.size
      clear b3 C3
      go_wp2_with fail
      refine (W1 _ b4).mono ?_
      rintro e w5 ⟨rfl, b5⟩
      replace b5 := below_on b4 b5 b4.size
      clear b4 W1
      go_wp2_with fail
      refine (W2 _ b5).mono ?_
      rintro e w6 ⟨rfl, b6⟩
      replace b6 := below_on b5 b6 b5.size
      clear b5 W2
      go_wp2_with fail
      all_goals go_ret
      all_goals exact ⟨rfl, b6⟩
    · obtain ⟨p2, e2, q2, z2⟩ := chkV_bad h2
      obtain ⟨n3, p3, e3, q3, l3⟩ := chkV_any (a ++ b)
      rw [q2] at C2
      rw [q3] at C3
      have z2' : (e2 == 0) = false := beq_eq_false_iff_ne.2 z2
      have z2'' : (e2 != 0) = true := by simp [z2]
      have l3a : ¬ ((p3 : Int) < 0) := by omega
      have l3b : ¬ ((a.size : Int) + (b.size : Int) < (p3 : Int)) := by omega
      clear h1 h2 q2 q3 z2 W1 W2
      go_enter Tryd.func7, Tryd.ntmps7
      go_wp2_with fail
      refine A.mono ?_
      rintro e w1 ⟨rfl, b1⟩
      clear A
      go_wp2_with fail
      refine (C1 _ b1).mono ?_
      rintro e w2 ⟨rfl, b2⟩
      replace b2 := below_on b1 b2 b1.size
      clear b1 C1
      go_wp2_with fail
      refine (C2 _ b2).mono ?_
      rintro e w3 ⟨rfl, b3⟩
      replace b3 := below_on b2 b3 b2.size
      clear b2 C2
      go_wp2_with fail
      refine (C3 _ b3).mono ?_
      rintro e w4 ⟨rfl, b4⟩
      replace b4 := below_on b3 b4 b3.size
      clear b3 C3
      go_wp2_with fail
      all_goals go_ret
      all_goals exact ⟨rfl, b4⟩
  · obtain ⟨p1, e1, q1, z1⟩ := chkV_bad h1
    obtain ⟨n2, p2, e2, q2, _⟩ := chkV_any b
    obtain ⟨n3, p3, e3, q3, l3⟩ := chkV_any (a ++ b)
    rw [q1] at C1
    rw [q2] at C2
    rw [q3] at C3
    have z1' : (e1 == 0) = false := beq_eq_false_iff_ne.2 z1
    have z1'' : (e1 != 0) = true := by simp [z1]
    have l3a : ¬ ((p3 : Int) < 0) := by omega
    have l3b : ¬ ((a.size : Int) + (b.size : Int) < (p3 : Int)) := by omega
    clear h1 q1 q2 q3 z1 W1 W2
    go_enter Tryd.func7, Tryd.ntmps7
    go_wp2_with fail
    refine A.mono ?_
    rintro e w1 ⟨rfl, b1⟩
    clear A
    go_wp2_with fail
    refine (C1 _ b1).mono ?_
    rintro e w2 ⟨rfl, b2⟩
    replace b2 := below_on b1 b2 b1.size
    clear b1 C1
    go_wp2_with fail
    refine (C2 _ b2).mono ?_
    rintro e w3 ⟨rfl, b3⟩
    replace b3 := below_on b2 b3 b2.size
    clear b2 C2
    go_wp2_with fail
    refine (C3 _ b3).mono ?_
    rintro e w4 ⟨rfl, b4⟩
    replace b4 := below_on b3 b4 b3.size
    clear b3 C3
    go_wp2_with fail
    all_goals go_ret
    all_goals exact ⟨rfl, b4⟩
end Go.Proofs.YtmckanjefhcnfaaDoor

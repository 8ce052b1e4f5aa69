/- Package scan: classes, faults. -/
import Derived.Test.YtecdfnpbcabdnaaGreatDoorScI
import Derived.Test.YtecdfnpbcabdnaaGreatDoorShelfD
import Derived.Lib.OthersKept
namespace Go.Proofs.YtecdfnpbcabdnaaGreatDoor
open Go.RowKit

/-- Go's two tables of UTF-8 lie where the program's text lays them. -/
structure TabsAt (w : World) : Prop where
  tab : Lib.Utf8Tabs 1 2 w
  lt : 2 < w.heap.size
theorem TabsAt.next {w w' : World} (h : TabsAt w) (hb : Below w.heap.size w w') : TabsAt w' :=
  ⟨⟨fun c hc => by rw [hb.cell (p := ⟨_, c, none⟩) (by have := h.lt; show 1 < _; omega)]; exact h.tab.1 c hc,
    fun i hi => by
      rw [hb.cell (p := ⟨_, 2 * i, none⟩) (by have := h.lt; show 2 < _; omega), hb.cell (p := ⟨_, 2 * i + 1, none⟩) (by have := h.lt; show 2 < _; omega)]
      exact h.tab.2 i hi⟩, Nat.lt_of_lt_of_le h.lt hb.size⟩

set_option maxHeartbeats 1000000 in
theorem is_c (r c : Int) (w : World) : Calls Tryz.prog 132 #[.int .i32 r, .int .i64 c] w fun e w' => e = .returned (.bool (isC r c)) ∧ w' = w := by
  obtain ⟨b, hb⟩ : ∃ b : Bool, Hid (b = isC r c) := ⟨_, rfl⟩
  rw [← hb.out]
  obtain ⟨b2, h2⟩ : ∃ b2 : Bool, Hid (b2 = decide (LetP r)) := ⟨_, rfl⟩
  obtain ⟨b3, h3⟩ : ∃ b3 : Bool, Hid (b3 = decide (DigP r)) := ⟨_, rfl⟩
  have L := isLetter_c r w
  have D := isDigit_c r w
  rw [← h2.out] at L
  rw [← h3.out] at D
  go_enter Tryz.func132, Tryz.ntmps132
  go_wp2_with (first
    | (go_at_call 149; refine L.mono ?_; rintro e w' ⟨rfl, rfl⟩)
    | (go_at_call 150; refine D.mono ?_; rintro e w' ⟨rfl, rfl⟩))
  all_goals go_ret
  all_goals try simp only [beq_eq_false_iff_ne, ne_eq, beq_iff_eq] at *
  all_goals (
    refine ⟨?_, by trivial⟩
    show Ending.returned (Value.bool _) = Ending.returned (Value.bool b)
    rw [hb.out]
    refine congrArg (fun b => Ending.returned (Value.bool b)) ?_
    have h2 := h2.out
    have h3 := h3.out
    unfold isC
    repeat' split
    all_goals first
      | (exfalso; omega)
      | exact h2
      | exact h3
      | rfl
      | (rw [Bool.decide_or, ← h2, ← h3]; clear h2 h3; cases b2 <;> first | rfl | contradiction)
      | (rw [Bool.eq_iff_iff]; simp; done)
      | (rw [Bool.eq_iff_iff]; simp; omega))

theorem begins_c (t : ByteArray) (h0 : 0 < t.size) (w : World) (hT : TabsAt w) : Calls Tryz.prog 112 #[.string t] w fun e w' => e = .returned (.bool (decide (1 < (Utf8.decode t 0).2))) ∧ Below w.heap.size w w' := by
  have D := Tryz.utf8_DecodeRuneInString t w hT.tab
  have e : Lib.decodeGo t = Utf8.decode t 0 := if_neg (by omega)
  rw [e] at D
  generalize Utf8.decode t 0 = d at *
  clear e h0 hT
  go_enter Tryz.func112, Tryz.ntmps112
  go_wp2_with (go_at_call 131; refine D.mono ?_; rintro e w' ⟨rfl, hb⟩)
  all_goals go_ret
  all_goals refine ⟨?_, hb⟩
  all_goals refine congrArg (fun b => Ending.returned (Value.bool b)) ?_
  all_goals (rw [Bool.eq_iff_iff]; simp; try omega)

theorem fault_c (t : ByteArray) (h0 : 0 < t.size) (w : World) (hT : TabsAt w) : Calls Tryz.prog 89 #[.int .i32 ((Utf8.decode t 0).1 : Nat), .string t] w fun e w' => e = .returned (.int .i64 (flt 10 11 (Utf8.decode t 0))) ∧ Below w.heap.size w w' := by
  have B := begins_c t h0 w hT
  have hw := width_pos t 0
  generalize hd : Utf8.decode t 0 = d at *
  obtain ⟨r, n⟩ := d
  clear hd
  simp only [] at *
  obtain ⟨b, HB⟩ : ∃ b : Bool, Hid (b = decide (InP (r : Int))) := ⟨_, rfl⟩
  obtain ⟨f, hf⟩ : ∃ f : Int, Hid (f = flt 10 11 (r, n)) := ⟨_, rfl⟩
  rw [← hf.out]
  obtain ⟨x, hx⟩ : ∃ x : Bool, Hid (x = decide (1 < n)) := ⟨_, rfl⟩
  rw [← hx.out] at B
  have I : ∀ w', Calls Tryz.prog 113 #[.int .i32 (r : Int)] w' _ := fun w' => letIn_c (r : Int) w'
  rw [← HB.out] at I
  have hf2 : Hid (f = if (r == 65533 && !x) = true then 10 else if b = true then 0 else 11) := by
    show f = _
    rw [hf.out, hx.out, HB.out, ← lets_in]
    unfold flt
    have : noSeq (r, n) = (r == 65533 && !decide (1 < n)) := by
      rw [Bool.eq_iff_iff]
      simp
      omega
    rw [this]
  clear h0 hT hf hx HB hw
  go_enter Tryz.func89, Tryz.ntmps89
  by_cases hr : r = 65533
  · subst hr
    go_wp2_with (first
      | (go_at_call 112; refine B.mono ?_; rintro e w' ⟨rfl, hb⟩)
      | (go_at_call 113; refine (I _).mono ?_; rintro e w' ⟨rfl, rfl⟩))
    all_goals go_ret
    all_goals refine ⟨congrArg (fun z => Ending.returned (Value.int .i64 z)) ?_, hb⟩
    all_goals rw [hf2.out]
    all_goals clear B I hb hf2
    all_goals cases x <;> cases b <;> first | rfl | (exfalso; simp_all; done)
  · have q : ((r : Int) == 65533) = false := beq_eq_false_iff_ne.2 (by omega)
    have q1 : Hid ((r == 65533) = false) := beq_eq_false_iff_ne.2 hr
    clear hr
    go_wp2_with (go_at_call 113; refine (I _).mono ?_; rintro e w' ⟨rfl, rfl⟩)
    all_goals go_ret
    all_goals refine ⟨congrArg (fun z => Ending.returned (Value.int .i64 z)) ?_, Below.refl _ _⟩
    all_goals rw [hf2.out, q1.out]
    all_goals clear B I hf2 q1 q
    all_goals cases b <;> first | rfl | (exfalso; simp_all; done)
/-- At a place of a string. -/
theorem fault_at (s : ByteArray) (i : Nat) (h : i < s.size) (w : World) (hT : TabsAt w) : Calls Tryz.prog 89 #[.int .i32 ((Utf8.decode s i).1 : Nat), .string (s.extract i s.size)] w fun e w' => e = .returned (.int .i64 (flt 10 11 (Utf8.decode s i))) ∧ Below w.heap.size w w' := by
  have := fault_c (s.extract i s.size) (by rw [size_tail]; omega) w hT
  rw [decode_rest, Nat.add_zero] at this
  exact this
end Go.Proofs.YtecdfnpbcabdnaaGreatDoor

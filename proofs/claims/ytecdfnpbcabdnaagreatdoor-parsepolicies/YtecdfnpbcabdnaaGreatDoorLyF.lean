/- The document's cutter: numbers and durations. -/
import Derived.Test.YtecdfnpbcabdnaaGreatDoorLyE
import Derived.Test.YtecdfnpbcabdnaaGreatDoorLzV
import Derived.Test.YtecdfnpbcabdnaaGreatDoorLzY
namespace Go.Proofs.YtecdfnpbcabdnaaGreatDoor
open Go.RowKit Go.Lib

/-- What a part of the cutter answers: a token is put, or an error. -/
def TkPost (w : World) (B b g cap : Nat) (s : ByteArray) (I : Nat) (v : Value) (L : List Tk) (tr : TR) (e : Ending) (w' : World) : Prop :=
  match tr with
  | .ok te => e = .returned (.int .i64 0) ∧ ∃ I' v', Ct w B w' b g cap s I' v' (L ++ [te.1]) ∧ Plc s I' te.2
  | .error k => e = .returned (.int .i64 k) ∧ Ct w B w' b g cap s I v L
theorem cls3_1 {r : Int} (h : isC r 2 = false) : isC r 3 = isC r 1 := by
  unfold isC at h ⊢
  simp only [Int.reduceEq, if_false, if_true] at h ⊢
  rw [decide_eq_false_iff_not] at h
  rw [Bool.eq_iff_iff, decide_eq_true_eq, decide_eq_true_eq]
  constructor
  · rintro (h1 | h1)
    · exact h1
    · exact absurd h1 h
  · exact .inl
theorem rAt_cls {s : ByteArray} {i : Nat} (hi : i ≤ s.size) (c : Int) : isC (rAt s i) c = decide (i < cls s c i) := by
  unfold rAt
  by_cases h : i < s.size
  · rw [if_pos h]
    rcases cls_step (c := c) h with ⟨h1, h2⟩ | ⟨h1, h2⟩
    · rw [h2, decide_eq_false (by omega)]
    · rw [h2, decide_eq_true h1]
  · have : cls s c i = s.size := rn_end h
    rw [if_neg h, isC_minus, decide_eq_false (by omega)]
theorem stop_cls {s : ByteArray} {i : Nat} (hi : i ≤ s.size) (c : Int) : isC (rAt s (cls s c i)) c = false := by
  have hin := cls_in s c i hi
  unfold rAt
  by_cases h : cls s c i < s.size
  · rw [if_pos h]
    exact rn_stop s (fun r => isC (r : Int) c) i h
  · rw [if_neg h, isC_minus]
/-- Behind the digits stands no digit. -/
theorem numE_stop {s : ByteArray} {i : Nat} (hi : i ≤ s.size) : isC (rAt s (numE s i)) 2 = false := by
  unfold numE
  split
  · rename_i h
    exact stop_cls (get_in (by rw [h.1]; decide)) 2
  · exact stop_cls hi 2
theorem Ct.drewN {w W : World} {B b g cap I : Nat} {s : ByteArray} {v : Value} {L : List Tk} (h : Ct w B W b g cap s I v L) (q : Nat) : Ct w B (W.drewN q) b g cap s I v L := h.next (drewN_b2 W q)
/-- The end of it: the text is read, a token is put. -/
theorem rd_at (x : ByteArray) (hx : x.size ≤ 1048576) (w : World) : Calls Tryz.prog 107 #[.string x] w fun e w' => e = .returned (readV x.data.toList) ∧ w' = w := by
  have := rRead_any x.data.toList (by rw [← Lib.size_eq]; omega) w
  exact this.mono fun _ _ k => ⟨k.1, k.2.symm⟩
theorem sp_at (x : ByteArray) (hx : x.size ≤ 1048576) (w : World) : Calls Tryz.prog 108 #[.string x] w fun e w' => e = .returned (spanR x.data.toList) ∧ Below w.heap.size w w' := rReadSpan_any x.data.toList (by rw [← Lib.size_eq]; omega) w
end Go.Proofs.YtecdfnpbcabdnaaGreatDoor

/- Package scan: Check. -/
import Derived.Test.YtecdfnpbcabdnaaGreatDoorScA
namespace Go.Proofs.YtecdfnpbcabdnaaGreatDoor
open Go.RowKit

theorem iterPos_of {w : World} {k : Nat} {s : ByteArray} {p : Nat} (h : w.heap[k]? = some (.stringIter s p)) : w.iterPos k = p := by simp [World.iterPos, h]
theorem iter_next {w w' : World} {k : Nat} {s : ByteArray} {p : Nat} (h : w.heap[k]? = some (.stringIter s p)) (hb : Below w.heap.size w w') : w'.heap[k]? = some (.stringIter s p) := by
  rw [hb.block k (Array.getElem?_eq_some_iff.1 h).1]
  exact h
theorem below_on {B : Nat} {w a b : World} (h : Below B w a) (k : Below a.heap.size a b) (hB : B ≤ a.heap.size) : Below B w b := h.trans (k.mono hB)
/-- What Check answers. -/
def chkV (s : ByteArray) : Value := .tuple #[.int .i64 (if (sd 10 11 s (rs s 0)).2 = 0 then ((rs s 0).length : Nat) else 0), .int .i64 ((sd 10 11 s (rs s 0)).1 : Nat), .int .i64 (sd 10 11 s (rs s 0)).2]
theorem chkV_ok {s : ByteArray} (h : (sd 10 11 s (rs s 0)).2 = 0) : chkV s = .tuple #[.int .i64 ((rs s 0).length : Nat), .int .i64 0, .int .i64 0] := by
  unfold chkV
  rw [if_pos h, sd_place _ h, h]
  rfl
theorem chkV_no {s : ByteArray} {p : Nat} {e : Int} (h : sd 10 11 s (rs s 0) = (p, e)) (he : e ≠ 0) : chkV s = .tuple #[.int .i64 0, .int .i64 (p : Nat), .int .i64 e] := by
  unfold chkV
  rw [h, if_neg he]

set_option maxHeartbeats 1000000 in
theorem check_c (s : ByteArray) (hz : s.size ≤ 562949953421312) (w : World) (hT : TabsAt w) : Calls Tryz.prog 63 #[.string s] w fun e w' => e = .returned (chkV s) ∧ Below w.heap.size w w' := by
  go_enter Tryz.func63, Tryz.ntmps63
  go_wp2
  go_loopw [5] (fun v wr => ∃ (pos n : Nat), v = .int .i64 n ∧ wr.heap[w.heap.size]? = some (.stringIter s pos) ∧ Below w.heap.size w wr ∧ n + (rs s pos).length = (rs s 0).length ∧ Hid (sd 10 11 s (rs s pos) = sd 10 11 s (rs s 0))) (fun _ wr => s.size - wr.iterPos w.heap.size)
  case atStart => exact ⟨0, 0, rfl, World.iter_heap w s 0, (Below.refl _ _).alloc (Nat.le_refl _) _, by omega, rfl⟩
  case round =>
    obtain ⟨pos, n, rfl, hit, hbw, hn, HS⟩ := hrel
    have hpos0 := iterPos_of hit
    have hn0 := rs_length0 s
    by_cases hp : pos < s.size
    · have hnx : ∀ ty, (Instr.next (.pointer (some ⟨w.heap.size, 0, none⟩)) true ty).run Tryz.prog wr = _ := fun ty => Lib.run_next_any_at wr w.heap.size s pos ty hit hp
      have hwd := width_pos s pos
      have hit2 := Lib.iterAt_heap wr w.heap.size s pos (pos + (Utf8.decode s pos).2) hit
      have hbw2 := Lib.below_iterAt hbw (k := w.heap.size) (Nat.le_refl _) s (pos + (Utf8.decode s pos).2)
      obtain ⟨W1, hW1⟩ : ∃ W1, W1 = wr.iterAt w.heap.size s (pos + (Utf8.decode s pos).2) := ⟨_, rfl⟩
      rw [← hW1] at hnx hit2 hbw2
      have F := fault_at s pos hp W1 (hT.next hbw2)
      rw [rs_step hp] at hn HS
      simp only [sd, List.length_cons] at hn HS
      have hB := hbw2.size
      have hps := width_in s pos hp
      generalize hd : Utf8.decode s pos = d at *
      obtain ⟨r, k⟩ := d
      simp only [] at *
      generalize hf : flt 10 11 (r, k) = f at *
      have hnw : IntKind.i64.wrap ((n : Int) + 1) = ((n + 1 : Nat) : Int) := by rw [IntKind.wrap_i64]; omega
      have HF : Hid (f = 0 ∨ (f ≠ 0 ∧ chkV s = .tuple #[.int .i64 0, .int .i64 pos, .int .i64 f])) := by
        by_cases h0 : f = 0
        · exact .inl h0
        · refine .inr ⟨h0, chkV_no (p := pos) (e := f) ?_ h0⟩
          rw [← HS.out, if_neg h0]
      have HS2 : Hid (f = 0 → sd 10 11 s (rs s (pos + k)) = sd 10 11 s (rs s 0)) := fun h0 => by
        rw [← HS.out, if_pos h0]
      clear hW1 hit hbw hT HS hd hf
      go_wp2_with (go_at_call 89; refine F.mono ?_; rintro e w' ⟨rfl, hb⟩)
      · rename_i hff
        have h0 : f ≠ 0 := by simpa using hff
        rcases HF.out with h | ⟨_, h⟩
        · exact absurd h h0
        · go_ret3
          exact ⟨by rw [h]; rfl, below_on hbw2 hb hB⟩
      · rename_i hff
        have h0 : f = 0 := by simpa using hff
        go_roundw
        case rel => exact ⟨_, n + 1, rfl, iter_next hit2 hb, below_on hbw2 hb hB, by omega, HS2.out h0⟩
        case measure => rw [iterPos_of (iter_next hit2 hb), hpos0]; omega
    · have hnx : ∀ ty, (Instr.next (.pointer (some ⟨w.heap.size, 0, none⟩)) true ty).run Tryz.prog wr = _ := fun ty => Lib.run_next_end_at wr w.heap.size s pos ty hit hp
      rw [rs_end hp] at hn HS
      have e : (sd 10 11 s (rs s 0)).2 = 0 := by rw [← HS.out]; rfl
      simp only [List.length_nil, Nat.add_zero] at hn
      have HE : Hid (chkV s = .tuple #[.int .i64 n, .int .i64 0, .int .i64 0]) := by rw [hn]; exact chkV_ok e
      clear HS e hn hn0 hT
      go_wp2
      go_ret3
      exact ⟨by rw [HE.out]; rfl, hbw⟩
end Go.Proofs.YtecdfnpbcabdnaaGreatDoor

/- Package scan: Run. -/
import Derived.Test.YtecdfnpbcabdnaaGreatDoorScB
namespace Go.Proofs.YtecdfnpbcabdnaaGreatDoor
open Go.RowKit

/-- Where the run of a class ends. -/
def runI (s : ByteArray) (x c : Int) : Int := if 0 ≤ x ∧ x ≤ (s.size : Int) then ((rne s.size (fun r => isC (r : Int) c) (rs s x.toNat) : Nat) : Int) else x

set_option maxHeartbeats 1000000 in
theorem run_c (s : ByteArray) (x c : Int) (hz : s.size ≤ 562949953421312) (w : World) : Calls Tryz.prog 114 #[.string s, .int .i64 x, .int .i64 c] w fun e w' => e = .returned (.int .i64 (runI s x c)) ∧ Below w.heap.size w w' := by
  obtain ⟨z, hr⟩ : ∃ z : Int, Hid (z = runI s x c) := ⟨_, rfl⟩
  rw [← hr.out]
  by_cases hx : 0 ≤ x ∧ x ≤ (s.size : Int)
  · obtain ⟨a, rfl⟩ : ∃ a : Nat, x = (a : Int) := ⟨x.toNat, by omega⟩
    have ha : a ≤ s.size := by omega
    have hr2 : Hid (z = ((rne s.size (fun r => isC (r : Int) c) (rs s a) : Nat) : Int)) := by
      show z = _
      rw [hr.out]
      unfold runI
      rw [if_pos hx, Int.toNat_natCast]
    clear hr hx
    have q0 : ¬ ((a : Int) < 0) := by omega
    have q1 : ¬ ((s.size : Int) < (a : Int)) := by omega
    have q2 : (a : Int) ≤ (s.size : Int) := by omega
    obtain ⟨t, ht⟩ : ∃ t, t = s.extract a s.size := ⟨_, rfl⟩
    go_enter Tryz.func114, Tryz.ntmps114
    go_wp2
    rw [← ht]
    go_loopw [] (fun wr => ∃ pos : Nat, wr.heap[w.heap.size]? = some (.stringIter t pos) ∧ Below w.heap.size w wr ∧ Hid (rne s.size (fun r => isC (r : Int) c) (rs s (a + pos)) = rne s.size (fun r => isC (r : Int) c) (rs s a))) (fun wr => t.size - wr.iterPos w.heap.size)
    case atStart => exact ⟨0, World.iter_heap w t 0, (Below.refl _ _).alloc (Nat.le_refl _) _, rfl⟩
    case round =>
      obtain ⟨pos, hit, hbw, HS⟩ := hrel
      have hpos0 := iterPos_of hit
      have htz : t.size = s.size - a := by rw [ht, size_tail]
      have htd : Utf8.decode t pos = Utf8.decode s (a + pos) := by rw [ht, decode_rest]
      by_cases hp : pos < t.size
      · have hnx : ∀ ty, (Instr.next (.pointer (some ⟨w.heap.size, 0, none⟩)) true ty).run Tryz.prog wr = _ := fun ty => Lib.run_next_any_at wr w.heap.size t pos ty hit hp
        have hwd := width_pos s (a + pos)
        have hit2 := Lib.iterAt_heap wr w.heap.size t pos (pos + (Utf8.decode t pos).2) hit
        have hbw2 := Lib.below_iterAt hbw (k := w.heap.size) (Nat.le_refl _) t (pos + (Utf8.decode t pos).2)
        obtain ⟨W1, hW1⟩ : ∃ W1, W1 = wr.iterAt w.heap.size t (pos + (Utf8.decode t pos).2) := ⟨_, rfl⟩
        rw [← hW1] at hnx hit2 hbw2
        have HS' := HS.out
        rw [rs_step (by omega)] at HS'
        simp only [rne] at HS'
        rw [htd] at hnx hit2
        generalize hd : Utf8.decode s (a + pos) = d at *
        obtain ⟨r, k⟩ := d
        simp only [] at *
        have I := is_c (r : Int) c W1
        obtain ⟨b, hb⟩ : ∃ b, Hid (b = isC (r : Int) c) := ⟨_, rfl⟩
        rw [← hb.out] at I HS'
        have hw : IntKind.i64.wrap ((a : Int) + (pos : Int)) = ((a + pos : Nat) : Int) := by rw [IntKind.wrap_i64]; omega
        have HS2 : Hid ((if b = true then rne s.size (fun r => isC (r : Int) c) (rs s (a + pos + k)) else a + pos) = rne s.size (fun r => isC (r : Int) c) (rs s a)) := HS'
        clear HS HS' hd htd hW1 hit hb ht hbw
        go_wp2_with (go_at_call 132; refine I.mono ?_; rintro e w' ⟨rfl, rfl⟩)
        · rename_i hbb
          have hz0 : z = ((a + pos : Nat) : Int) := by
            rw [hr2.out, ← HS2.out, if_neg (by simpa using hbb)]
          go_ret
          exact ⟨by rw [hz0]; rfl, hbw2⟩
        · rename_i hbb
          have hz0 := HS2.out
          rw [if_pos (by simpa using hbb), Nat.add_assoc] at hz0
          go_roundw
          case rel => exact ⟨_, hit2, hbw2, hz0⟩
          case measure => rw [iterPos_of hit2, hpos0]; omega
      · have hnx : ∀ ty, (Instr.next (.pointer (some ⟨w.heap.size, 0, none⟩)) true ty).run Tryz.prog wr = _ := fun ty => Lib.run_next_end_at wr w.heap.size t pos ty hit hp
        have HS' := HS.out
        rw [rs_end (by omega)] at HS'
        have HE : Hid (z = (s.size : Int)) := by show z = _; rw [hr2.out, ← HS']; rfl
        clear HS HS' htd hr2 hit ht
        go_wp2
        go_ret
        exact ⟨by rw [HE.out]; rfl, hbw⟩
  · have hr2 : Hid (z = x) := by
      show z = _
      rw [hr.out]
      exact if_neg hx
    clear hr
    go_enter Tryz.func114, Tryz.ntmps114
    by_cases h0 : x < 0
    · go_wp2
      go_ret
      exact ⟨by rw [hr2.out]; rfl, Below.refl _ _⟩
    · have h1 : (s.size : Int) < x := by omega
      clear hx
      go_wp2
      go_ret
      exact ⟨by rw [hr2.out]; rfl, Below.refl _ _⟩
end Go.Proofs.YtecdfnpbcabdnaaGreatDoor

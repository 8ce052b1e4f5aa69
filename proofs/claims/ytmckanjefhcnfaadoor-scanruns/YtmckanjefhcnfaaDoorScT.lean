/- The document's answer: Run. -/
import Derived.Test.YtmckanjefhcnfaaDoorScQ
import Derived.Test.YtmckanjefhcnfaaDoorScR
namespace Go.Proofs.YtmckanjefhcnfaaDoor
open Go.RowKit

set_option maxHeartbeats 1000000 in
theorem rRun_c (s : ByteArray) (x c : Int) (hz : s.size ≤ 562949953421312) (w : World) : Calls Tryd.prog 18 #[.string s, .int .i64 x, .int .i64 c] w fun e w' => e = .returned (.int .i64 (runI s x c)) ∧ w' = w := by
  obtain ⟨z, hr⟩ : ∃ z : Int, Hid (z = runI s x c) := ⟨_, rfl⟩
  rw [← hr.out]
  by_cases hx : 0 ≤ x ∧ x ≤ (s.size : Int)
  · obtain ⟨a, rfl⟩ : ∃ a : Nat, x = (a : Int) := ⟨x.toNat, by omega⟩
    have ha : a ≤ s.size := by omega
    have hr2 : Hid (z = ((rne s.size (fun r => isC (r : Int) c) (rs s a) : Nat) : Int)) := by
      show z = _
      rw [hr.out]
      unfold runI
      rw [if_pos hx, Int.toNat_natCast]
    clear hr hx
    have q0 : ¬ ((a : Int) < 0) := by omega
    have q1 : ¬ ((s.size : Int) < (a : Int)) := by omega
    go_enter Tryd.func18, Tryd.ntmps18
    go_wp2_with fail
    go_loop [1] (fun s1 => ∃ pos : Nat, s1 = .int .i64 pos ∧ pos ≤ s.size ∧ Hid (rne s.size (fun r => isC (r : Int) c) (rs s pos) = rne s.size (fun r => isC (r : Int) c) (rs s a))) (fun s1 => match s1 with | .int _ p => ((s.size : Int) - p).toNat | _ => 0)
    case atStart => exact ⟨a, rfl, ha, rfl⟩
    case round =>
      obtain ⟨pos, rfl, hps, HS⟩ := hrel
      by_cases hp : pos < s.size
      · have hp1 : (pos : Int) < (s.size : Int) := by omega
        have S := seq_c s pos hp hz w
        have hwd := width_pos s pos
        have hw4 := width_in s pos hp
        have HS' := HS.out
        rw [rs_step hp] at HS'
        simp only [rne] at HS'
        generalize hd : Utf8.decode s pos = d at *
        obtain ⟨r, k⟩ := d
        simp only [] at *
        by_cases hn : noSeq (r, k) = true
        · have hr5 : r = 65533 := by simp at hn; omega
          subst hr5
          rw [show isC ((65533 : Nat) : Int) c = false from isC_end c, if_neg (by simp)] at HS'
          simp only [seqV, if_pos hn] at S
          have HE : Hid (z = (pos : Int)) := by show z = _; rw [hr2.out, ← HS']
          clear HS HS' hd hn hr2
          go_wp2_with (go_at_call 19; refine S.mono ?_; rintro e w' ⟨rfl, rfl⟩)
          go_ret
          exact ⟨by rw [HE.out]; rfl, rfl⟩
        · simp only [seqV, if_neg hn] at S
          have I := rIs_c (r : Int) c w
          obtain ⟨b, hb⟩ : ∃ b, Hid (b = isC (r : Int) c) := ⟨_, rfl⟩
          rw [← hb.out] at I HS'
          have k0 : ((k : Int) == 0) = false := beq_eq_false_iff_ne.2 (by omega)
          have HS2 : Hid ((if b = true then rne s.size (fun r => isC (r : Int) c) (rs s (pos + k)) else pos) = rne s.size (fun r => isC (r : Int) c) (rs s a)) := HS'
          clear HS HS' hd hn hb
          go_wp2_with (first
            | (go_at_call 19; refine S.mono ?_; rintro e w' ⟨rfl, rfl⟩)
            | (go_at_call 16; refine I.mono ?_; rintro e w' ⟨rfl, rfl⟩))
          · rename_i hbb
            have hz0 : z = (pos : Int) := by
              rw [hr2.out, ← HS2.out, if_neg (by simpa using hbb)]
            go_ret
            exact ⟨by rw [hz0]; rfl, rfl⟩
          · rename_i hbb
            have hz0 := HS2.out
            rw [if_pos (by simpa using hbb)] at hz0
            go_round
            case rel => exact ⟨pos + k, rfl, hw4, hz0⟩
            case measure => simp only []; omega
      · obtain rfl : pos = s.size := by omega
        have HS' := HS.out
        rw [rs_end hp] at HS'
        have HE : Hid (z = (s.size : Int)) := by show z = _; rw [hr2.out, ← HS']; rfl
        clear HS HS' hr2
        go_wp2_with fail
        go_ret
        exact ⟨by rw [HE.out]; rfl, rfl⟩
  · have hr2 : Hid (z = x) := by
      show z = _
      rw [hr.out]
      exact if_neg hx
    clear hr
    go_enter Tryd.func18, Tryd.ntmps18
    by_cases h0 : x < 0
    · go_wp2_with fail
      go_ret
      exact ⟨by rw [hr2.out]; rfl, rfl⟩
    · have h1 : (s.size : Int) < x := by omega
      clear hx
      go_wp2_with fail
      go_ret
      exact ⟨by rw [hr2.out]; rfl, rfl⟩
end Go.Proofs.YtmckanjefhcnfaaDoor

/- The document's answer: Sequence. -/
import Derived.Test.YtecdfnpbcabdnaaGreatDoorScS
import Derived.Lib.Strings
namespace Go.Proofs.YtecdfnpbcabdnaaGreatDoor
open Go.RowKit Go.Lib

theorem gt_of (s : ByteArray) (k : Nat) (h : k < s.size) : s[k]'h = s.get! k := by
  cases s with
  | mk d => exact (getElem!_pos d k h).symm
set_option maxHeartbeats 1000000 in
set_option maxRecDepth 10000 in
theorem seq_c (s : ByteArray) (i : Nat) (hi : i < s.size) (hz : s.size ≤ 562949953421312) (w : World) : Calls Tryz.prog 78 #[.string s, .int .i64 i] w fun e w' => e = .returned (.tuple #[.int .i64 ((seqV (Utf8.decode s i)).1 : Nat), .int .i64 ((seqV (Utf8.decode s i)).2 : Nat)]) ∧ w' = w := by
  obtain ⟨v, hv⟩ : ∃ v, Hid (v = seqV (Utf8.decode s i)) := ⟨_, rfl⟩
  rw [← hv.out]
  obtain ⟨g, hg⟩ : ∃ g : Nat → Nat, Hid (∀ k, g k = (s.get! (i + k)).toNat) := ⟨_, fun _ => rfl⟩
  have hd : Hid (Utf8.decode s i = decodeN (s.size - i) (g 0) (g 1) (g 2) (g 3)) := by
    show _ = _
    rw [Lib.decode_at, hg.out, hg.out, hg.out, hg.out]
    rfl
  have hb : ∀ k, g k < 256 := fun k => by rw [hg.out]; exact (s.get! (i + k)).toNat_lt
  have hb0 := hb 0
  have hx : (s[i]'hi).toNat = g 0 := by rw [hg.out, gt_of]; rfl
  have hi2 : (i : Int) < (s.size : Int) := by omega
  by_cases c1 : g 0 < 128
  · have c1' : (g 0 : Int) < 128 := by omega
    have hv0 : v = (g 0, 1) := by
      rw [hv.out, hd.out]
      unfold decodeN
      rw [if_pos c1]
      exact if_neg (by simp; omega)
    clear hv hd
    go_enter Tryz.func78, Tryz.ntmps78
    go_wp2_with fail
    go_ret2
    exact ⟨by first | rfl | (rw [hv0]; rfl), rfl⟩
  have c1' : ¬ (g 0 : Int) < 128 := by omega
  by_cases c2 : g 0 / 32 = 6
  · -- 2 bytes
    have c2' : ((g 0 : Int) / 32 == 6) = true := beq_iff_eq.2 (by omega)
    have hL : Hid (Lead (g 0) 2 (g 0 % 32) 128) := ⟨by omega, .inl ⟨c2, rfl, rfl, rfl⟩⟩
    by_cases hn : i + 2 ≤ s.size
    · have hn1 : ¬ ((s.size : Int) < (i : Int) + 2) := by omega
      have hrest : Hid (∀ r, acc g (g 0 % 32) 2 = some r → (outR r 128 → v = (0, 0)) ∧ (¬ outR r 128 → v = (r, 2))) := fun r hr => by
        have := lead_some hL.out hr (m := s.size - i) (by omega)
        rw [← hd.out] at this
        exact ⟨fun h => by rw [hv.out]; exact if_pos (this.1 h), fun h => by rw [hv.out, this.2 h]; exact if_neg (by simp)⟩
      have hnone : Hid (acc g (g 0 % 32) 2 = none → v = (0, 0)) := fun hr => by
        have := lead_none hL.out hr (m := s.size - i)
        rw [← hd.out] at this
        rw [hv.out]
        exact if_pos this
      clear hv hd hL
      go_enter Tryz.func78, Tryz.ntmps78
      go_wp2_with fail
      go_loop [8, 10] (fun s8 s10 => ∃ k r : Nat, s8 = .int .i64 r ∧ s10 = .int .i64 k ∧ 1 ≤ k ∧ k ≤ 2 ∧ r < 64 ^ k ∧ Hid (acc g (g 0 % 32) k = some r)) (fun _ s10 => match s10 with | .int _ k => (2 - k).toNat | _ => 0)
      case atStart => exact ⟨1, g 0 % 32, congrArg _ (by omega), rfl, by omega, by omega, by omega, rfl⟩
      case round =>
        obtain ⟨k, r, rfl, rfl, hk1, hk2, hr, HA⟩ := hrel
        by_cases hk : k < 2
        · have hkz : (k : Int) < 2 := by omega
          have hik : i + k < s.size := by omega
          have hxk : (s[i + k]'hik).toNat = g k := by rw [hg.out, gt_of]
          have hbk := hb k
          have hr4 : r < 64 ^ 4 := Nat.lt_of_lt_of_le hr (Nat.pow_le_pow_right (by omega) (by omega))
          have HR : Hid (r < 64 ^ k) := hr
          clear hr
          by_cases k64 : g k / 64 = 2
          · have k64' : ((g k : Int) / 64 != 2) = false := by simp; omega
            go_wp2_with fail
            go_round
            case rel =>
              refine ⟨k + 1, r * 64 + g k % 64, congrArg _ (by omega), rfl, by omega, by omega, ?_, ?_⟩
              · have := HR.out
                rw [Nat.pow_succ]
                omega
              · show _ = _
                rw [acc_step hk1 HA.out, if_pos k64]
            case measure => simp only []; omega
          · have k64' : ((g k : Int) / 64 != 2) = true := by simp; omega
            have hv0 : v = (0, 0) := hnone.out (by
              have h1 := acc_step hk1 HA.out
              rw [if_neg k64] at h1
              have h2 := acc_none (by omega) h1 (2 - (k + 1))
              rwa [show k + 1 + (2 - (k + 1)) = 2 by omega] at h2)
            clear hrest hnone HA
            go_wp2_with fail
            go_ret2
            exact ⟨by first | rfl | (rw [hv0]; rfl), rfl⟩
        · obtain rfl : k = 2 := by omega
          have hfin : Hid _ := hrest.out r HA.out
          clear HA hnone hrest hr
          go_wp2_with fail
          all_goals go_ret2
          all_goals first
            | exact ⟨by rw [hfin.out.1 (by omega)]; rfl, rfl⟩
            | exact ⟨by rw [hfin.out.2 (by omega)]; rfl, rfl⟩
    · have hn1 : (s.size : Int) < (i : Int) + 2 := by omega
      have hv0 : v = (0, 0) := by
        rw [hv.out, hd.out]
        exact if_pos (lead_short hL.out (by omega))
      clear hv hd hL
      go_enter Tryz.func78, Tryz.ntmps78
      go_wp2_with fail
      go_ret2
      exact ⟨by first | rfl | (rw [hv0]; rfl), rfl⟩
  have c2' : ((g 0 : Int) / 32 == 6) = false := beq_eq_false_iff_ne.2 (by omega)
  by_cases c3 : g 0 / 16 = 14
  · -- 3 bytes
    have c3' : ((g 0 : Int) / 16 == 14) = true := beq_iff_eq.2 (by omega)
    have hL : Hid (Lead (g 0) 3 (g 0 % 16) 2048) := ⟨by omega, .inr (.inl ⟨c3, rfl, rfl, rfl⟩)⟩
    by_cases hn : i + 3 ≤ s.size
    · have hn1 : ¬ ((s.size : Int) < (i : Int) + 3) := by omega
      have hrest : Hid (∀ r, acc g (g 0 % 16) 3 = some r → (outR r 2048 → v = (0, 0)) ∧ (¬ outR r 2048 → v = (r, 3))) := fun r hr => by
        have := lead_some hL.out hr (m := s.size - i) (by omega)
        rw [← hd.out] at this
        exact ⟨fun h => by rw [hv.out]; exact if_pos (this.1 h), fun h => by rw [hv.out, this.2 h]; exact if_neg (by simp)⟩
      have hnone : Hid (acc g (g 0 % 16) 3 = none → v = (0, 0)) := fun hr => by
        have := lead_none hL.out hr (m := s.size - i)
        rw [← hd.out] at this
        rw [hv.out]
        exact if_pos this
      clear hv hd hL
      go_enter Tryz.func78, Tryz.ntmps78
      go_wp2_with fail
      go_loop [8, 10] (fun s8 s10 => ∃ k r : Nat, s8 = .int .i64 r ∧ s10 = .int .i64 k ∧ 1 ≤ k ∧ k ≤ 3 ∧ r < 64 ^ k ∧ Hid (acc g (g 0 % 16) k = some r)) (fun _ s10 => match s10 with | .int _ k => (3 - k).toNat | _ => 0)
      case atStart => exact ⟨1, g 0 % 16, congrArg _ (by omega), rfl, by omega, by omega, by omega, rfl⟩
      case round =>
        obtain ⟨k, r, rfl, rfl, hk1, hk2, hr, HA⟩ := hrel
        by_cases hk : k < 3
        · have hkz : (k : Int) < 3 := by omega
          have hik : i + k < s.size := by omega
          have hxk : (s[i + k]'hik).toNat = g k := by rw [hg.out, gt_of]
          have hbk := hb k
          have hr4 : r < 64 ^ 4 := Nat.lt_of_lt_of_le hr (Nat.pow_le_pow_right (by omega) (by omega))
          have HR : Hid (r < 64 ^ k) := hr
          clear hr
          by_cases k64 : g k / 64 = 2
          · have k64' : ((g k : Int) / 64 != 2) = false := by simp; omega
            go_wp2_with fail
            go_round
            case rel =>
              refine ⟨k + 1, r * 64 + g k % 64, congrArg _ (by omega), rfl, by omega, by omega, ?_, ?_⟩
              · have := HR.out
                rw [Nat.pow_succ]
                omega
              · show _ = _
                rw [acc_step hk1 HA.out, if_pos k64]
            case measure => simp only []; omega
          · have k64' : ((g k : Int) / 64 != 2) = true := by simp; omega
            have hv0 : v = (0, 0) := hnone.out (by
              have h1 := acc_step hk1 HA.out
              rw [if_neg k64] at h1
              have h2 := acc_none (by omega) h1 (3 - (k + 1))
              rwa [show k + 1 + (3 - (k + 1)) = 3 by omega] at h2)
            clear hrest hnone HA
            go_wp2_with fail
            go_ret2
            exact ⟨by first | rfl | (rw [hv0]; rfl), rfl⟩
        · obtain rfl : k = 3 := by omega
          have hfin : Hid _ := hrest.out r HA.out
          clear HA hnone hrest hr
          go_wp2_with fail
          all_goals go_ret2
          all_goals first
            | exact ⟨by rw [hfin.out.1 (by omega)]; rfl, rfl⟩
            | exact ⟨by rw [hfin.out.2 (by omega)]; rfl, rfl⟩
    · have hn1 : (s.size : Int) < (i : Int) + 3 := by omega
      have hv0 : v = (0, 0) := by
        rw [hv.out, hd.out]
        exact if_pos (lead_short hL.out (by omega))
      clear hv hd hL
      go_enter Tryz.func78, Tryz.ntmps78
      go_wp2_with fail
      go_ret2
      exact ⟨by first | rfl | (rw [hv0]; rfl), rfl⟩
  have c3' : ((g 0 : Int) / 16 == 14) = false := beq_eq_false_iff_ne.2 (by omega)
  by_cases c4 : g 0 / 8 = 30
  · -- 4 bytes
    have c4' : ((g 0 : Int) / 8 == 30) = true := beq_iff_eq.2 (by omega)
    have hL : Hid (Lead (g 0) 4 (g 0 % 8) 65536) := ⟨by omega, .inr (.inr ⟨c4, rfl, rfl, rfl⟩)⟩
    by_cases hn : i + 4 ≤ s.size
    · have hn1 : ¬ ((s.size : Int) < (i : Int) + 4) := by omega
      have hrest : Hid (∀ r, acc g (g 0 % 8) 4 = some r → (outR r 65536 → v = (0, 0)) ∧ (¬ outR r 65536 → v = (r, 4))) := fun r hr => by
        have := lead_some hL.out hr (m := s.size - i) (by omega)
        rw [← hd.out] at this
        exact ⟨fun h => by rw [hv.out]; exact if_pos (this.1 h), fun h => by rw [hv.out, this.2 h]; exact if_neg (by simp)⟩
      have hnone : Hid (acc g (g 0 % 8) 4 = none → v = (0, 0)) := fun hr => by
        have := lead_none hL.out hr (m := s.size - i)
        rw [← hd.out] at this
        rw [hv.out]
        exact if_pos this
      clear hv hd hL
      go_enter Tryz.func78, Tryz.ntmps78
      go_wp2_with fail
      go_loop [8, 10] (fun s8 s10 => ∃ k r : Nat, s8 = .int .i64 r ∧ s10 = .int .i64 k ∧ 1 ≤ k ∧ k ≤ 4 ∧ r < 64 ^ k ∧ Hid (acc g (g 0 % 8) k = some r)) (fun _ s10 => match s10 with | .int _ k => (4 - k).toNat | _ => 0)
      case atStart => exact ⟨1, g 0 % 8, congrArg _ (by omega), rfl, by omega, by omega, by omega, rfl⟩
      case round =>
        obtain ⟨k, r, rfl, rfl, hk1, hk2, hr, HA⟩ := hrel
        by_cases hk : k < 4
        · have hkz : (k : Int) < 4 := by omega
          have hik : i + k < s.size := by omega
          have hxk : (s[i + k]'hik).toNat = g k := by rw [hg.out, gt_of]
          have hbk := hb k
          have hr4 : r < 64 ^ 4 := Nat.lt_of_lt_of_le hr (Nat.pow_le_pow_right (by omega) (by omega))
          have HR : Hid (r < 64 ^ k) := hr
          clear hr
          by_cases k64 : g k / 64 = 2
          · have k64' : ((g k : Int) / 64 != 2) = false := by simp; omega
            go_wp2_with fail
            go_round
            case rel =>
              refine ⟨k + 1, r * 64 + g k % 64, congrArg _ (by omega), rfl, by omega, by omega, ?_, ?_⟩
              · have := HR.out
                rw [Nat.pow_succ]
                omega
              · show _ = _
                rw [acc_step hk1 HA.out, if_pos k64]
            case measure => simp only []; omega
          · have k64' : ((g k : Int) / 64 != 2) = true := by simp; omega
            have hv0 : v = (0, 0) := hnone.out (by
              have h1 := acc_step hk1 HA.out
              rw [if_neg k64] at h1
              have h2 := acc_none (by omega) h1 (4 - (k + 1))
              rwa [show k + 1 + (4 - (k + 1)) = 4 by omega] at h2)
            clear hrest hnone HA
            go_wp2_with fail
            go_ret2
            exact ⟨by first | rfl | (rw [hv0]; rfl), rfl⟩
        · obtain rfl : k = 4 := by omega
          have hfin : Hid _ := hrest.out r HA.out
          clear HA hnone hrest hr
          go_wp2_with fail
          all_goals go_ret2
          all_goals first
            | exact ⟨by rw [hfin.out.1 (by omega)]; rfl, rfl⟩
            | exact ⟨by rw [hfin.out.2 (by omega)]; rfl, rfl⟩
    · have hn1 : (s.size : Int) < (i : Int) + 4 := by omega
      have hv0 : v = (0, 0) := by
        rw [hv.out, hd.out]
        exact if_pos (lead_short hL.out (by omega))
      clear hv hd hL
      go_enter Tryz.func78, Tryz.ntmps78
      go_wp2_with fail
      go_ret2
      exact ⟨by first | rfl | (rw [hv0]; rfl), rfl⟩
  have c4' : ((g 0 : Int) / 8 == 30) = false := beq_eq_false_iff_ne.2 (by omega)
  have hv0 : v = (0, 0) := by
    rw [hv.out, hd.out]
    exact if_pos (lead_not (by omega) c2 c3 c4)
  clear hv hd
  go_enter Tryz.func78, Tryz.ntmps78
  go_wp2_with fail
  go_ret2
  exact ⟨by first | rfl | (rw [hv0]; rfl), rfl⟩
end Go.Proofs.YtecdfnpbcabdnaaGreatDoor

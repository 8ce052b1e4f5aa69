import Derived.Test.YtpkknifbocfeaaaGreatDoorMgB
namespace Go.Proofs.YtpkknifbocfeaaaGreatDoor
open Go.RowKit

theorem cbelow_turn {W w w' : World} {F : List Nat} (hb : Below W.heap.size W w) (t : Turn F w w') (hF : ∀ b, b ∈ F → W.heap.size ≤ b) : Below W.heap.size W w' :=
  hb.trans (t.below hF hb.size)

def ccntV (s : Nat) (_ : Co) : Nat × Bool := (s + 1, decide (s + 1 ≤ 4096))
theorem ccnt_run : ∀ (l : List Co) (s : Nat), s ≤ 4096 → (crunV ccntV l s).1 = min (s + l.length) 4097
  | [], s, h => by simp [crunV]; omega
  | t :: r, s, h => by
    rw [crunV]
    by_cases hs : s + 1 ≤ 4096
    · rw [if_pos (by simp [ccntV, hs])]
      have := ccnt_run r (s + 1) hs
      show (crunV ccntV r (s + 1)).1 = _
      rw [this, List.length_cons]; congr 1; omega
    · rw [if_neg (by simp [ccntV, hs])]
      show s + 1 = _
      rw [List.length_cons]; omega
def cndsV (t : Co) : Value := .int .i64 ((min (cnodes t) 4097 : Nat) : Int)
theorem cmin_cast (n : Nat) : min (n : Int) 4097 = ((min n 4097 : Nat) : Int) := by omega
set_option maxHeartbeats 1000000 in
theorem crNodes_c (t : Co) : ∀ (v : Value) (w : World), CSits w t v → Calls Tryz.prog 29 #[coV t v] w fun e w' => e = .returned (cndsV t) ∧ Below w.heap.size w w' := by
  induction t using Co.ind with
  | h t ih =>
    intro v w hs
    have HP := chid hs.parts
    have HI := chid ih
    obtain ⟨ad, cap, rfl, hlc, hc⟩ := hs.parts.shape
    obtain ⟨V, hV⟩ : ∃ V, Hid (V = cndsV t) := ⟨_, rfl⟩
    rw [← hV.out]
    obtain ⟨N, hN⟩ : ∃ N, Hid (N = t.parts.length) := ⟨_, rfl⟩
    rw [← hN.out] at hlc HP ⊢
    clear hs ih
    go_enter Tryz.func29, Tryz.ntmps29
    go_wp2_with fail
    have BX : Hid (Box (w.alloc (.cells (coL t (.slice ad N cap)).toArray 30)) w.heap.size (coL t (.slice ad N cap))) := Box.new _ _ _
    go_loopw [3, 4] (fun c i wr => ∃ (k m : Nat), i = .int .i64 (k : Nat) ∧ c = .int .i64 (m : Nat) ∧ k ≤ N ∧ m ≤ 8193 ∧ Hid (min m 4097 = min (1 + cnodesL (t.parts.take k)) 4097) ∧ Hid (Below (w.heap.size + 1) (w.alloc (.cells (coL t (.slice ad N cap)).toArray 30)) wr)) (fun _ i _ => match i with | .int _ p => ((N : Int) - p).toNat | _ => 0)
    case atStart => exact ⟨0, 1, rfl, rfl, by omega, by omega, chid rfl, Below.refl _ _⟩
    case round =>
      obtain ⟨k, m, rfl, rfl, hk, hm, HM, HB⟩ := hrel
      have HBw : Hid (Below w.heap.size w wr) := ((Below.refl _ _).alloc (Nat.le_refl _) _).trans (HB.out.mono (by omega))
      have X := BX.out.later HB.out (by omega)
      have k3 := X.cell 3 _ rfl
      by_cases hlt : k < N
      · have hlt' : (k : Int) < (N : Int) := by omega
        by_cases h16 : m ≤ 4096
        · have h16' : (m : Int) ≤ 4096 := by omega
          have hl1 : k < t.parts.length := by rw [← hN.out]; exact hlt
          obtain ⟨b, off, cap', hv, -, -, hbl, hx⟩ := HP.out.open (by omega)
          simp only [Value.slice.injEq] at hv
          obtain ⟨rfl, -, rfl⟩ := hv
          obtain ⟨u, h6, hu⟩ := hx k hl1
          obtain ⟨c0, c1, c2, c3⟩ := h6.keep (w' := wr) (fun q => HBw.out.cell (p := ⟨b, q, none⟩) hbl)
          have HC := chid (HI.out _ (List.getElem_mem hl1) u wr (hu.next HBw.out))
          have HS : Hid (cnodesL (t.parts.take (k + 1)) = cnodesL (t.parts.take k) + cnodes t.parts[k]) := by
            show _ = _
            rw [List.take_succ_eq_append_getElem hl1, cnodesL_append, cnodesL_cons]; simp [cnodesL_nil]
          clear hx h6 hu X
          unfold cndsV at HC
          have hmn : min (cnodes t.parts[k]) 4097 ≤ 4097 := Nat.min_le_right _ _
          obtain ⟨M, hM⟩ : ∃ M, Hid (M = min (cnodes t.parts[k]) 4097) := ⟨_, chid rfl⟩
          rw [← hM.out] at HC hmn
          generalize t.parts[k] = x at *
          clear hl1
          go_wp2_with fail
          refine Calls.mono HC.out ?_
          rintro e w1 ⟨rfl, b1⟩
          have B1 := chid (HB.out.trans (b1.mono (by have := HB.out.size; simp at this; omega)))
          clear b1 HC
          obtain ⟨S, hS⟩ : ∃ S, Hid (S = m + M) := ⟨_, chid rfl⟩
          have i3 : (m : Int) + (M : Int) = (S : Int) := by have := hS.out; omega
          have i4 : (S : Int) ≤ 8193 := by have := hS.out; omega
          have hmn2 := chid hmn
          have h162 := chid h16
          clear hmn h16
          go_wp2_with fail
          go_roundw
          case rel => exact ⟨k + 1, S, by go_num, rfl, by omega, by omega, (by show _ = _; rw [HS.out, hS.out]; have := HM.out; have := hM.out; have := h162.out; omega), B1.out⟩
          case measure => simp; omega
        · have h16' : ¬ (m : Int) ≤ 4096 := by omega
          have hVV : Hid (V = .int .i64 ((min m 4097 : Nat) : Int)) := by
            show _ = _
            rw [hV.out, cndsV, cnodes_eq]
            have e : cnodesL t.parts = cnodesL (t.parts.take k) + cnodesL (t.parts.drop k) := by rw [← cnodesL_append, List.take_append_drop]
            have := HM.out
            congr 2
            omega
          go_wp2_with fail
          all_goals go_ret
          all_goals exact ⟨by rw [hVV.out]; first | (rw [show min m 4097 = 4097 by omega]; rfl) | (rw [show min m 4097 = m by omega]; rfl), HBw.out⟩
      · have hlt' : ¬ (k : Int) < (N : Int) := by omega
        have hkN : k = N := by omega
        have hVV : Hid (V = .int .i64 ((min m 4097 : Nat) : Int)) := by
          show _ = _
          rw [hV.out, cndsV, cnodes_eq]
          have e1 : t.parts.take k = t.parts := by rw [hkN, hN.out]; exact List.take_length
          have := HM.out
          rw [e1] at this
          rw [this]
        go_wp2_with fail
        all_goals go_ret
        all_goals exact ⟨by rw [hVV.out]; first | (rw [show min m 4097 = 4097 by omega]; rfl) | (rw [show min m 4097 = m by omega]; rfl), HBw.out⟩
end Go.Proofs.YtpkknifbocfeaaaGreatDoor

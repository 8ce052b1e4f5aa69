/- Package scan: Where; and what a program that does nothing does not answer. -/
import Derived.Test.YtmckanjefhcnfaaDoorScR
namespace Go.Proofs.YtmckanjefhcnfaaDoor
open Go.RowKit

/-- What Where answers. -/
def whrT (s : ByteArray) (x : Int) : Int × Int × Int := if (sd 10 11 s (rs s 0)).2 = 0 then whr x s.size 3 (rs s 0) 1 1 else (0, 0, (sd 10 11 s (rs s 0)).2)
abbrev tri (p : Int × Int × Int) : Value := .tuple #[.int .i64 p.1, .int .i64 p.2.1, .int .i64 p.2.2]

set_option maxHeartbeats 1000000 in
theorem where_c (s : ByteArray) (x : Int) (hz : s.size ≤ 562949953421312) (w : World) (hT : TabsAt w) : Calls Tryd.prog 13 #[.string s, .int .i64 x] w fun e w' => e = .returned (tri (whrT s x)) ∧ Below w.heap.size w w' := by
  obtain ⟨v, hv⟩ : ∃ v, Hid (v = whrT s x) := ⟨_, rfl⟩
  rw [← hv.out]
  have C := check_c s hz w hT
  by_cases h0 : (sd 10 11 s (rs s 0)).2 = 0
  · rw [chkV_ok h0] at C
    have hv2 : Hid (v = whr x s.size 3 (rs s 0) 1 1) := by show v = _; rw [hv.out]; exact if_pos h0
    clear hv hT h0
    go_enter Tryd.func13, Tryd.ntmps13
    go_wp2_with (go_at_call 11; refine C.mono ?_; rintro e w1 ⟨rfl, hb1⟩; clear C)
    go_loopw [10, 11] (fun s10 s11 wr => ∃ pos l c : Nat, s10 = .int .i64 l ∧ s11 = .int .i64 c ∧ wr.heap[w1.heap.size]? = some (.stringIter s pos) ∧ Below w1.heap.size w1 wr ∧ l ≤ pos + 1 ∧ c ≤ pos + 1 ∧ pos ≤ s.size ∧ Hid (whr x s.size 3 (rs s pos) l c = v)) (fun _ _ wr => s.size - wr.iterPos w1.heap.size)
    case atStart => exact ⟨0, 1, 1, rfl, rfl, World.iter_heap w1 s 0, (Below.refl _ _).alloc (Nat.le_refl _) _, by omega, by omega, by omega, hv2.out.symm⟩
    case round =>
      obtain ⟨pos, l, c, rfl, rfl, hit, hbw, hl, hc, hps, HS⟩ := hrel
      have hpos0 := iterPos_of hit
      by_cases hp : pos < s.size
      · have hnx : ∀ ty, (Instr.next (.pointer (some ⟨w1.heap.size, 0, none⟩)) true ty).run Tryd.prog wr = _ := fun ty => Lib.run_next_any_at wr w1.heap.size s pos ty hit hp
        have hwd := width_pos s pos
        have hw4 := width_in s pos hp
        have hit2 := Lib.iterAt_heap wr w1.heap.size s pos (pos + (Utf8.decode s pos).2) hit
        have hbw2 := Lib.below_iterAt hbw (k := w1.heap.size) (Nat.le_refl _) s (pos + (Utf8.decode s pos).2)
        obtain ⟨W1, hW1⟩ : ∃ W1, W1 = wr.iterAt w1.heap.size s (pos + (Utf8.decode s pos).2) := ⟨_, rfl⟩
        rw [← hW1] at hnx hit2 hbw2
        have HS' := HS.out
        rw [rs_step hp] at HS'
        simp only [whr] at HS'
        generalize hd : Utf8.decode s pos = d at *
        obtain ⟨r, k⟩ := d
        simp only [] at *
        have HF : Hid (Below w.heap.size w W1) := below_on hb1 hbw2 hb1.size
        by_cases hx : (pos : Int) = x
        · rw [if_pos hx] at HS'
          have HE : Hid (v = (↑l, ↑c, 0)) := HS'.symm
          have hx1 : ((pos : Int) == x) = true := beq_iff_eq.2 hx
          clear HS HS' hv2 hd hW1 hit hx hbw
          go_wp2_with fail
          go_ret3
          exact ⟨by rw [HE.out]; rfl, HF.out⟩
        · rw [if_neg hx] at HS'
          have hx1 : ((pos : Int) == x) = false := beq_eq_false_iff_ne.2 hx
          by_cases h10 : r = 10
          · subst h10
            rw [if_pos rfl] at HS'
            have HE : Hid (whr x s.size 3 (rs s (pos + k)) (l + 1) 1 = v) := HS'
            clear HS HS' hv2 hd hW1 hit hx hbw
            go_wp2_with fail
            go_roundw
            case rel => exact ⟨_, l + 1, 1, rfl, rfl, hit2, hbw2, by omega, by omega, hw4, HE.out⟩
            case measure => rw [iterPos_of hit2, hpos0]; omega
          · rw [if_neg h10] at HS'
            have HE : Hid (whr x s.size 3 (rs s (pos + k)) l (c + 1) = v) := HS'
            have h10' : ((r : Int) == 10) = false := beq_eq_false_iff_ne.2 (by omega)
            clear HS HS' hv2 hd hW1 hit hx h10 hbw
            go_wp2_with fail
            go_roundw
            case rel => exact ⟨_, l, c + 1, rfl, rfl, hit2, hbw2, by omega, by omega, hw4, HE.out⟩
            case measure => rw [iterPos_of hit2, hpos0]; omega
      · have hnx : ∀ ty, (Instr.next (.pointer (some ⟨w1.heap.size, 0, none⟩)) true ty).run Tryd.prog wr = _ := fun ty => Lib.run_next_end_at wr w1.heap.size s pos ty hit hp
        have HS' := HS.out
        rw [rs_end hp] at HS'
        simp only [whr] at HS'
        have HF : Hid (Below w.heap.size w wr) := below_on hb1 hbw hb1.size
        by_cases hx : x = (s.size : Int)
        · rw [if_pos hx] at HS'
          have HE : Hid (v = (↑l, ↑c, 0)) := HS'.symm
          have hx1 : (x != (s.size : Int)) = false := by simp [hx]
          clear HS HS' hv2 hit hx hbw
          go_wp2_with fail
          go_ret3
          exact ⟨by rw [HE.out]; rfl, HF.out⟩
        · rw [if_neg hx] at HS'
          have HE : Hid (v = (0, 0, 3)) := HS'.symm
          have hx1 : (x != (s.size : Int)) = true := by simp [hx]
          clear HS HS' hv2 hit hx hbw
          go_wp2_with fail
          go_ret3
          exact ⟨by rw [HE.out]; rfl, HF.out⟩
  · obtain ⟨p, e, he⟩ : ∃ p e, sd 10 11 s (rs s 0) = (p, e) := ⟨_, _, rfl⟩
    have he0 : e ≠ 0 := by rw [he] at h0; exact h0
    rw [chkV_no he he0] at C
    have hv2 : Hid (v = (0, 0, e)) := by show v = _; rw [hv.out]; unfold whrT; rw [if_neg h0, he]
    have he1 : (e != 0) = true := by simp [he0]
    clear hv hT h0 he he0
    go_enter Tryd.func13, Tryd.ntmps13
    go_wp2_with (go_at_call 11; refine C.mono ?_; rintro e w1 ⟨rfl, hb1⟩; clear C)
    go_ret3
    exact ⟨by rw [hv2.out]; rfl, hb1⟩

theorem awake_c (w : World) (hT : TabsAt w) : Calls Tryd.prog 9 #[] w fun e w' => e = .returned (.bool true) ∧ Below w.heap.size w w' := by
  have C := check_c ⟨#[97, 195, 169]⟩ (by decide) w hT
  have eC : chkV ⟨#[97, 195, 169]⟩ = .tuple #[.int .i64 2, .int .i64 0, .int .i64 0] := by kernel_rfl
  rw [eC] at C
  have W : ∀ w', Below w.heap.size w w' → Calls Tryd.prog 13 #[.string ⟨#[195, 169, 10, 97, 98]⟩, .int .i64 4] w' _ := fun w' hb => where_c ⟨#[195, 169, 10, 97, 98]⟩ 4 (by decide) w' (hT.next hb)
  have eW : whrT ⟨#[195, 169, 10, 97, 98]⟩ 4 = (2, 2, 0) := by kernel_rfl
  rw [eW] at W
  clear eC eW
  go_enter Tryd.func9, Tryd.ntmps9
  go_wp2_with (first
    | (go_at_call 11; refine C.mono ?_; rintro e w1 ⟨rfl, hb1⟩; clear C)
    | (go_at_call 13; refine (W _ hb1).mono ?_; rintro e w2 ⟨rfl, hb2⟩; clear W))
  go_ret
  exact ⟨rfl, below_on hb1 hb2 hb1.size⟩
end Go.Proofs.YtmckanjefhcnfaaDoor

/- One call on both, Held and none; any call. -/
import Derived.Test.YtccgbkafcbfcgaaPaG
namespace Go.Proofs.Ytccgbkafcbfcgaa
open Go.RowKit

set_option maxRecDepth 20000 in
set_option maxHeartbeats 4000000 in
theorem step_held (B b rb : Nat) (F : List Nat) (g : Nat) (m a s p ck : Int) (on : Bool) (A L : List Pr) (x : Pr) (w : World) (h : Duo8 B w b rb F g m a s p ck on A L) (hr : RightT m a s p) (i1 : In64 x.1) (hl : A.length < 8796093022208) :
    Calls Try.prog 12 #[.pointer (some ⟨b, 0, none⟩), .pointer (some ⟨rb, 0, none⟩), .agg #[.int .i64 3, .int .i64 x.1, .int .i64 x.2]] w fun e w' => e = .returned (.bool true) ∧ Stepped B w b rb m a s p (A.length + 1) w' := by
  obtain ⟨hN0, hB0⟩ := one_box w 37 [.int .i64 3, .int .i64 x.1, .int .i64 x.2]
  obtain ⟨W, hW⟩ : ∃ W, W = w.alloc (.cells #[.int .i64 3, .int .i64 x.1, .int .i64 x.2] 37) := ⟨_, rfl⟩
  rw [← hW] at hN0 hB0
  have hD := h.next hB0
  obtain ⟨nf, nr, ng⟩ := h.notF (n := w.heap.size) (Nat.le_refl _)
  have a0 := hN0.cell 0 _ rfl
  have a1 := hN0.cell 1 _ rfl
  have al := hN0.lt
  have HD := hid hD
  have HN := hid hN0
  have HBB := hid (show Below B w W from hB0.mono h.start)
  clear hD hN0 hB0 h
  go_enter Try.func12, Try.ntmps12
  go_upto_region 1 with fail
  rw [← hW]
  clear hW
  generalize w.heap.size = n at *
  by_cases hs : on = true ∧ x.1 < ck
  · obtain ⟨rfl, hck⟩ := hs
    go_wp2_with fail
    refine Calls.mono (wHeld_stale b F a s p ck L x.1 W HD.out.win hck) ?_
    rintro e w1 ⟨rfl, rfl⟩
    go_wp2_with fail
    refine Calls.mono (gRead_stale rb g m a s p ck A x.1 W HD.out.ref hck) ?_
    rintro e w3 ⟨rfl, hb3⟩
    have hb4 : Below W.heap.size W (w3.alloc (.cells #[.int .i64 0, .int .i64 0] 49)) := hb3.alloc hb3.size _
    have HD4 := hid (HD.out.next hb4)
    have HB4 := hid (HBB.out.trans (hb4.mono HD.out.start))
    clear hb3 hb4 a0 a1
    simp only [rv, r0]
    go_wp2_with fail
    go_ret
    exact ⟨rfl, F, g, ck, true, A, L, HD4.out, by omega, HB4.out⟩
  · have hlt : Later on ck x.1 := fun e => by
      rcases Int.lt_or_le x.1 ck with h1 | h1
      · exact absurd ⟨e, h1⟩ hs
      · exact h1
    have HL := hid hlt
    have hsame := HD.out.agree.same x.1 hlt
    generalize hy : toldOf a p (vals (heldOf s x.1 A)) = y
    have HY := hid hy
    have hML : (fresh s x.1 L).length < 4611686018427387904 := by have := fresh_len s x.1 L; have := HD.out.win.len; omega
    have HWH := hid (wHeld b F a s p ck on L x.1 W HD.out.win i1 hlt)
    have HAG := hid (HD.out.agree.read hlt)
    generalize hM : fresh s x.1 L = M at *
    have HSM := hid hsame
    clear hs hlt hy hsame hM
    go_wp2_with fail
    refine Calls.mono HWH.out ?_
    rintro e w1 ⟨ga, rfl, hga, hbx, g1⟩
    obtain ⟨F1, hH, hN1, nf1, hB1⟩ := HD.out.first g1 HN.out nf
    have d1 := hN1.cell 1 _ rfl
    have dl := hN1.lt
    have HH := hid hH
    have HN1 := hid hN1
    have HBX := hid hbx
    have HB1 := hid (HBB.out.trans hB1)
    obtain ⟨rl1, rl2⟩ := HD.out.ref.lt
    have ga1 : ga ≠ rb := by omega
    have ga2 : ga ≠ g := by omega
    clear hH hN1 hbx hB1 g1 a0 a1 HWH
    go_wp2_with fail
    refine Calls.mono (gRead rb g m a s p ck on A x.1 w1 HH.out.ref HL.out hl (HD.out.agree.all HL.out) i1 hr) ?_
    rw [HY.out]
    rintro e w3 ⟨rfl, g3⟩
    have hN3 : Box w3 n [.int .i64 3, .int .i64 x.1, .int .i64 x.2] := by
      obtain ⟨g', _, tt, _⟩ := g3
      exact HN1.out.turn tt (by simp [nr, ng])
    obtain ⟨g', hD3, hQ3, hB3⟩ := HH.out.second g3 HAG.out HBX.out ga1 ga2
    have hb4 : Below w3.heap.size w3 (w3.alloc (.cells #[.int .i64 y.1, .int .i64 y.2] 49)) := (Below.refl _ _).alloc (Nat.le_refl _) _
    obtain ⟨w4, hw4⟩ : ∃ w4, w4 = w3.alloc (.cells #[.int .i64 y.1, .int .i64 y.2] 49) := ⟨_, rfl⟩
    rw [← hw4] at hb4
    have hD4 := hD3.next hb4
    have hQ4 := hQ3.next hb4
    have hN4 := hN3.next hb4
    have HB4 := hid ((HB1.out.trans hB3).trans (hb4.mono hD3.start))
    clear d1 dl
    have e1 := hN4.cell 1 _ rfl
    have el := hN4.lt
    obtain ⟨lv, rbx, rsl⟩ := hD4.ref
    have rd := rsl.rd
    obtain ⟨ax, cx, hlv⟩ := rsl.shape
    subst hlv
    have r2 := rbx.cell 2 _ rfl
    have r4 := rbx.cell 4 _ rfl
    have rl := rbx.lt
    have HD4 := hid hD4
    have HQ4 := hid hQ4
    obtain ⟨-, -, -, s1, s2, -, -⟩ := hr
    have HFH := hid (fun k => fHeld _ A x.1 s (w4.drewN k) (rd.alike rfl) hl (fun z hz => ⟨(hD4.agree.le z hz).1, (hD4.agree.le z hz).2.1⟩) i1 s1 s2)
    clear hD3 hQ3 hB3 hb4 hD4 hQ4 hN4 rbx rsl rd g3 hN3
    simp only [rv]
    go_upto_region 14 with fail
    rw [← hw4]
    clear hw4
    go_region_with (first | (go_at_call 24; refine Calls.mono (HFH.out 1) ?_; rintro e w5 ⟨lv5, rfl, hpl5, hb5⟩; obtain ⟨a5, c5, hlv5⟩ := hpl5.shape; subst hlv5; have HP5 := hid hpl5.rd; have H5 := hid (show Below w4.heap.size w4 w5 from (drewN_below w4 1).trans hb5); clear hpl5 hb5) | (go_at_call 23; refine Calls.mono (same_sams _ _ M _ (box_rdp (HQ4.out.next H5.out) _) (by have h5 := HP5.out; rw [← HSM.out] at h5 ⊢; exact h5) hML) ?_; rintro e w6 ⟨rfl, hb6⟩; have H6 := hid hb6; clear hb6))
    all_goals go_wp2_with fail
    all_goals go_ret
    all_goals exact ⟨rfl, _, _, _, _, _, _, (HD4.out.next H5.out).next H6.out, by omega, (HB4.out.trans (H5.out.mono HD4.out.start)).trans (H6.out.mono (Nat.le_trans HD4.out.start H5.out.size))⟩
set_option maxRecDepth 20000 in
set_option maxHeartbeats 1000000 in
theorem step_none (B b rb : Nat) (F : List Nat) (g : Nat) (m a s p ck : Int) (on : Bool) (A L : List Pr) (kd : Int) (x : Pr) (w : World) (h : Duo8 B w b rb F g m a s p ck on A L) (h1 : kd ≠ 1) (h2 : kd ≠ 2) (h3 : kd ≠ 3) :
    Calls Try.prog 12 #[.pointer (some ⟨b, 0, none⟩), .pointer (some ⟨rb, 0, none⟩), .agg #[.int .i64 kd, .int .i64 x.1, .int .i64 x.2]] w fun e w' => e = .returned (.bool true) ∧ Stepped B w b rb m a s p (A.length + 1) w' := by
  obtain ⟨hN0, hB0⟩ := one_box w 37 [.int .i64 kd, .int .i64 x.1, .int .i64 x.2]
  have HD := hid (h.next hB0)
  have HBB := hid (hB0.mono h.start)
  have k1 : (kd == 1) = false := by simpa using h1
  have k2 : (kd == 2) = false := by simpa using h2
  have k3 : (kd == 3) = false := by simpa using h3
  have a0 := hN0.cell 0 _ rfl
  clear hN0 hB0 h h1 h2 h3
  go_enter Try.func12, Try.ntmps12
  go_wp2_with fail
  go_ret
  exact ⟨rfl, F, g, ck, on, A, L, HD.out, by omega, HBB.out⟩
theorem step_any (B b rb : Nat) (F : List Nat) (g : Nat) (m a s p ck : Int) (on : Bool) (A L : List Pr) (kd : Int) (x : Pr) (w : World) (h : Duo8 B w b rb F g m a s p ck on A L) (hr : RightT m a s p) (i1 : In64 x.1) (i2 : In64 x.2) (hl : A.length < 8796093022208) :
    Calls Try.prog 12 #[.pointer (some ⟨b, 0, none⟩), .pointer (some ⟨rb, 0, none⟩), .agg #[.int .i64 kd, .int .i64 x.1, .int .i64 x.2]] w fun e w' => e = .returned (.bool true) ∧ Stepped B w b rb m a s p (A.length + 1) w' := by
  by_cases h1 : kd = 1
  · subst h1; exact step_put B b rb F g m a s p ck on A L x w h i1 i2 hl
  · by_cases h2 : kd = 2
    · subst h2; exact step_read B b rb F g m a s p ck on A L x w h hr i1 hl
    · by_cases h3 : kd = 3
      · subst h3; exact step_held B b rb F g m a s p ck on A L x w h hr i1 hl
      · exact step_none B b rb F g m a s p ck on A L kd x w h h1 h2 h3
end Go.Proofs.Ytccgbkafcbfcgaa

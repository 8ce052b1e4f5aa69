/- Package lex: Cut. -/
import Derived.Test.YtecdfnpbcabdnaaGreatDoorLxV
namespace Go.Proofs.YtecdfnpbcabdnaaGreatDoor
open Go.RowKit Go.Lib

theorem lexF_place (s : ByteArray) : ∀ (f i : Nat) (L : List Tk), (lexF s f i L).2.2 = 0 → (lexF s f i L).2.1 = 0
  | 0, _, _, _ => rfl
  | f + 1, i, L, h => by
    simp only [lexF] at h ⊢
    split
    · rename_i h1
      rw [if_pos h1] at h
      split
      · rename_i h2
        rw [if_pos h2] at h
        cases h
      · rename_i h2
        rw [if_neg h2] at h
        cases ht : tok s (skp s i) with
        | error e =>
          rw [ht] at h
          exact absurd h (tok_err _ ht)
        | ok te =>
          rw [ht] at h
          exact lexF_place s f _ _ h
    · rfl
theorem lexS_place {s : ByteArray} {i : Nat} {L : List Tk} (h : (lexS s i L).2.2 = 0) : (lexS s i L).2.1 = 0 := lexF_place s _ _ _ h
/-- What Cut answers. -/
def CutP (s : ByteArray) (w : World) (e : Ending) (w' : World) : Prop :=
  ∃ v, e = .returned (.tuple #[v, .int .i64 ((cutS s).2.1 : Nat), .int .i64 (cutS s).2.2]) ∧ (if (cutS s).2.2 = 0 then Toks w' w.heap.size v (cutS s).1 else v = .slice none 0 0) ∧ Below w.heap.size w w'
set_option maxHeartbeats 4000000 in
theorem cut_c (s : ByteArray) (hz : s.size ≤ 562949953421312) (w : World) (hT : TabsAt w) : Calls Tryz.prog 41 #[.string s] w (CutP s w) := by
  obtain ⟨res, hres⟩ : ∃ res, Hid (res = cutS s) := ⟨_, rfl⟩
  have hP : Hid (∀ v w', (if res.2.2 = 0 then Toks w' w.heap.size v res.1 else v = .slice none 0 0) → Below w.heap.size w w' → CutP s w (.returned (.tuple #[v, .int .i64 (res.2.1 : Nat), .int .i64 res.2.2])) w') := fun v w' h1 h2 => by
    unfold CutP
    rw [← hres.out]
    exact ⟨v, rfl, h1, h2⟩
  by_cases hlong : 1048576 < s.size
  · have hr : Hid (res = ([], 0, 2)) := by show _ = _; rw [hres.out]; exact if_pos hlong
    have hl : (1048576 : Int) < (s.size : Int) := by omega
    clear hres
    generalize CutP s w = Post at *
    go_enter Tryz.func41, Tryz.ntmps41
    go_wp2_with fail
    go_ret3
    have := hP.out (.slice none 0 0) w (by rw [hr.out]; rfl) (Below.refl _ _)
    rw [hr.out] at this
    exact this
  · have hl : ¬ ((1048576 : Int) < (s.size : Int)) := by omega
    have HC := hid2 (check_c s hz w hT)
    by_cases hs : (sd 10 11 s (rs s 0)).2 = 0
    · have hr : Hid (res = lexS s 0 []) := by show _ = _; rw [hres.out]; exact cut_ok (by omega) hs
      rw [chkV_ok hs] at HC
      have HA := hid2 (fun W b (h : Rdr W b s 0) => all_c b s (by omega) hs W h)
      have hpl : Hid (res.2.2 = 0 → res.2.1 = 0) := fun h => by rw [hr.out] at h ⊢; exact lexS_place h
      rw [← hr.out] at HA
      clear hres hs hr hT
      generalize (rs s 0).length = nn at *
      generalize CutP s w = Post at *
      go_enter Tryz.func41, Tryz.ntmps41
      go_wp2_with fail
      refine Calls.mono HC.out ?_
      rintro r w1 ⟨rfl, b1⟩
      go_wp2_with fail
      have hb : Hid (Rdr (w1.alloc (.cells #[.string s, .int .i64 0] 97)) w1.heap.size s 0) := Box.new w1 [.string s, .int .i64 0] 97
      have b2 : Below w.heap.size w (w1.alloc (.cells #[.string s, .int .i64 0] 97)) := b1.alloc b1.size _
      have hz2 : (w1.alloc (.cells #[.string s, .int .i64 0] 97)).heap.size = w1.heap.size + 1 := by simp
      have hge := b1.size
      generalize w1.alloc _ = W2 at *
      refine Calls.mono (HA.out _ _ hb.out) ?_
      rintro r w3 ⟨v, rfl, hv, ⟨at_, hrd, hat⟩, htr⟩
      have hB : Hid (Below w.heap.size w w3) := b2.trans (htr.below (by simp; omega) (by omega))
      obtain ⟨c0, c1, _, _⟩ := hrd.two
      have bl := hrd.lt
      have HV := hid2 hv
      clear hv hrd htr HA HC b2 hb b1
      by_cases he : res.2.2 = 0
      · have hpp := hpl.out he
        have HF := hid2 (hP.out v w3 (by rw [if_pos he]; have := HV.out; rw [if_pos he] at this; exact own_mono this (by omega)) hB.out)
        rw [he, hpp] at HF
        have he2 : (res.2.2 != 0) = false := by simp [he]
        clear hP HV
        rw [he]
        go_wp2_with fail
        go_ret3
        exact HF.out
      · have hpp := hat he
        have hv2 := HV.out
        rw [if_neg he] at hv2
        subst hv2
        have HF := hid2 (fun q => hP.out (.slice none 0 0) (w3.drewN q) (by rw [if_neg he]) (below_on hB.out (drewN_b2 w3 q) hB.out.size))
        have he2 : (res.2.2 != 0) = true := by simpa using he
        clear hP HV hat hpl
        generalize res.2.2 = ee at *
        go_wp2_with fail
        go_quiet (fail)
        go_wp2_with fail
        go_ret3
        exact HF.out _
    · have hr : Hid (res = ([], sd 10 11 s (rs s 0))) := by show _ = _; rw [hres.out]; unfold cutS; rw [if_neg hlong, if_neg hs]
      have hcv := chkV_no (s := s) (p := (sd 10 11 s (rs s 0)).1) (e := (sd 10 11 s (rs s 0)).2) rfl hs
      rw [hcv] at HC
      have hs2 : ((sd 10 11 s (rs s 0)).2 != 0) = true := by simpa using hs
      have HF := hid2 (fun w1 (b1 : Below w.heap.size w w1) => hP.out (.slice none 0 0) w1 (by rw [hr.out, if_neg hs]) b1)
      rw [hr.out] at HF
      clear hres hr hT hP hcv
      generalize (sd 10 11 s (rs s 0)).1 = pl at *
      generalize (sd 10 11 s (rs s 0)).2 = ee at *
      generalize CutP s w = Post at *
      go_enter Tryz.func41, Tryz.ntmps41
      go_wp2_with fail
      refine Calls.mono HC.out ?_
      rintro r w1 ⟨rfl, b1⟩
      go_wp2_with fail
      go_ret3
      exact HF.out _ b1
end Go.Proofs.YtecdfnpbcabdnaaGreatDoor

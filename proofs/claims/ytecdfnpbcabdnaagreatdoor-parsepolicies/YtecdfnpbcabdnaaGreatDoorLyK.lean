/- The document's Cut. -/
import Derived.Test.YtecdfnpbcabdnaaGreatDoorLyJ
import Derived.Test.YtecdfnpbcabdnaaGreatDoorLxW
namespace Go.Proofs.YtecdfnpbcabdnaaGreatDoor
open Go.RowKit Go.Lib

/-- The byte at which the cutter stands. -/
def cuP (w : World) (b g : Nat) : Nat := match w.cell? ⟨g, cuI w b * 2 + 1, none⟩ with
  | some (.int _ n) => n.toNat
  | _ => 0
theorem cuP_of {w W : World} {B b g cap I i : Nat} {s : ByteArray} {v : Value} {L : List Tk} (h : Ct w B W b g cap s I v L) (hp : Plc s I i) : cuP W b g = i := by
  unfold cuP
  rw [cuI_of h, (h.at_ hp).2]
  exact Int.toNat_natCast i
theorem tokL_ok {s : ByteArray} {i : Nat} {L : List Tk} {te : Tk × Nat} (h : tokL s i L = .ok te) : L.length ≠ 16384 ∧ tok s i = .ok te := by
  unfold tokL at h
  split at h
  · cases h
  · rename_i h1
    exact ⟨h1, h⟩
theorem lex_err {s : ByteArray} {i : Nat} {L : List Tk} {k : Int} (hi : i ≤ s.size) (hs : skp s i < s.size) (h : tokL s (skp s i) L = .error k) : lexS s i L = ([], skp s i, k) ∧ k ≠ 0 := by
  unfold tokL at h
  split at h
  · rename_i h1
    cases h
    exact ⟨lex_many hi hs h1, by decide⟩
  · rename_i h1
    exact ⟨lex_no hi hs h1 h, tok_err _ h⟩
set_option maxHeartbeats 8000000 in
theorem rCut_c (s : ByteArray) (w : World) : Calls Tryz.prog 54 #[.string s] w (CutP s w) := by
  obtain ⟨i0, hi, hz0, hz1, hz2⟩ := info_parts info_pc
  obtain ⟨res, hres⟩ : ∃ res, Hid (res = cutS s) := ⟨_, rfl⟩
  have hP : Hid (∀ v w', (if res.2.2 = 0 then Toks w' w.heap.size v res.1 else v = .slice none 0 0) → Below w.heap.size w w' → CutP s w (.returned (.tuple #[v, .int .i64 (res.2.1 : Nat), .int .i64 res.2.2])) w') := fun v w' h1 h2 => by
    unfold CutP
    rw [← hres.out]
    exact ⟨v, rfl, h1, h2⟩
  by_cases hlong : 1048576 < s.size
  · have hr : Hid (res = ([], 0, 2)) := by show _ = _; rw [hres.out]; exact if_pos hlong
    have hl : (1048576 : Int) < (s.size : Int) := by omega
    clear hres
    generalize CutP s w = Post at *
    go_enter Tryz.func54, Tryz.ntmps54
    go_wp2_with fail
    go_ret3
    have := hP.out (.slice none 0 0) w (by rw [hr.out]; rfl) (Below.refl _ _)
    rw [hr.out] at this
    exact this
  · have hl : ¬ ((1048576 : Int) < (s.size : Int)) := by omega
    have hzs : s.size ≤ 1048576 := by omega
    have HC := hid2 (pieces_c s hzs w)
    by_cases hs : (sd 10 11 s (rs s 0)).2 = 0
    · have hr : Hid (res = lexS s 0 []) := by show _ = _; rw [hres.out]; exact cut_ok hzs hs
      have HV : Hid (Vd s 0) := hs
      have hpl := sd_place _ hs
      have hrs := rs_length0 s
      obtain ⟨nn, HPn⟩ : ∃ nn, Hid ((PL s).length = nn) := ⟨_, rfl⟩
      have HLL : Hid (nn = (rs s 0).length + 1) := HPn.out.symm.trans (PL_len s)
      have HPL : Hid (pcs (PL s) = pcs (toI (rs s 0)) ++ [.int .i64 (-1), .int .i64 (s.size : Int)]) := by show _ = _; unfold PL; rw [pcs_snoc]
      generalize CutP s w = Post at *
      clear hres
      go_enter Tryz.func54, Tryz.ntmps54
      go_wp2_with fail
      refine Calls.mono HC.out ?_
      rintro r w1 ⟨⟨v, rfl, hv⟩, b1⟩
      rw [if_pos hs] at hv
      rw [hpl, hs]
      have hsz := b1.size
      clear HC hs hpl
      obtain ⟨va, vc, rfl⟩ := own_val hv
      go_wp2_with (at_builtin; refine wpList_append_own _ rfl _ _ 82 rfl w.heap.size 86 i0 (.agg #[.int .i64 0, .int .i64 0]) 2 16 Tryz.underlying82 hi hz0 hz1 hz2 rfl (by decide) _ _ _ rfl (hv.alloc _) ⟨_, 0, none⟩ 1 1 [.int .i64 (-1), .int .i64 (s.size : Int)] rfl rfl ?c1 ?c2 ?c3 ?c4 ?c5 ?_)
      case c1 => exact cell_two_new _ _ _ _
      case c2 => intro u hu; simp at hu; rcases hu with rfl | rfl <;> rfl
      case c3 => unfold maxLen; omega
      case c4 => omega
      case c5 => simp; omega
      intro v' w2 hown' hgrow _
      have b2 := below_own b1 hsz _ (Nat.le_refl _) hv hgrow
      have hown : w2.ownsRow w.heap.size 86 2 v' nn (pcs (PL s)) := by
        rw [HLL.out, HPL.out]
        exact hown'
      obtain ⟨g, cap, rfl, hgw, hgb⟩ : ∃ g cap, v' = .slice (some ⟨g, 0, none⟩) nn cap ∧ w.heap.size ≤ g ∧ Box w2 g (pcs (PL s)) := by
        obtain ⟨h1, ⟨h2, h3⟩ | ⟨g, cap, cur, h2, h3, h4, h5, h6, h7, h8⟩⟩ := hown
        · have := HLL.out; omega
        · exact ⟨g, cap, h2, h3, (Box.ofBlock h4).part (by rw [← h8]; exact List.take_prefix _ _)⟩
      have hgl := hgb.lt
      have hs2 := b2.size
      have HG := hid2 hgb
      have HB2 := hid2 b2
      clear hown' hgrow hv hown hgb b1 b2
      go_wp2_with fail
      have hm : Hid (Ct w (w2.heap.size + 1) (w2.alloc (.cells #[.string s, .slice (some ⟨g, 0, none⟩) nn cap, .int .i64 0, .slice none 0 0] 89)) w2.heap.size g cap s 0 (.slice none 0 0) []) :=
        ⟨by rw [HPn.out]; exact Box.new w2 [.string s, .slice (some ⟨g, 0, none⟩) nn cap, .int .i64 0, .slice none 0 0] 89, HG.out.next ((Below.refl _ _).alloc (Nat.le_refl _) _), ⟨rfl, .inl ⟨rfl, rfl⟩⟩, HB2.out.alloc hs2 _, hs2, by omega, by omega, by omega, by simp⟩
      have hgb2 : g < w2.heap.size := hgl
      generalize hbe : w2.heap.size = b at *
      go_loopw [7] (fun s7 wr => ∃ (k7 : Int) (I i : Nat) (v : Value) (L : List Tk), s7 = .int .i64 k7 ∧ Hid (Ct w (b + 1) wr b g cap s I v L) ∧ Hid (Plc s I i) ∧ Hid (Vd s i) ∧ L.length ≤ 16384 ∧ Hid (res = lexS s i L)) (fun _ wr => s.size - cuP wr b g)
      case atStart => exact ⟨0, 0, 0, .slice none 0 0, [], rfl, hm, Plc.start s, HV, by simp, hr⟩
      case round =>
        obtain ⟨k7, I, i, v, L, rfl, HCt, HPi, HVi, hLl, HR⟩ := hrel
        clear hm HV hr HG HB2
        have HIc := hid2 (cuP_of HCt.out HPi.out)
        have hsk := skp_in i HPi.out.inn
        have HVj := hid2 (skp_vd i HPi.out.inn HVi.out)
        have hin := HPi.out.inn
        go_wp2_with fail
        refine Calls.mono (skip_r w (b + 1) wr b g cap s hzs I i v L HCt.out HPi.out HVi.out) ?_
        rintro r w3 ⟨rfl, J, C3, P3⟩
        have H3 := hid2 C3
        have HPj := hid2 P3
        clear C3 P3
        obtain ⟨c0, c1, c2, c3, f0, f1, f2, f3⟩ := H3.out.box.four
        have hlt := H3.out.box.lt
        have hlg := H3.out.pc.lt
        obtain ⟨r0, r1⟩ := H3.out.piece' HPj.out
        have hJl := HPj.out.le
        have hJ2 : (J : Int) < (nn : Int) := by have := HLL.out; omega
        rw [HPn.out] at c1
        by_cases hlt2 : skp s i < s.size
        · have hrr : rAt s (skp s i) = ((Utf8.decode s (skp s i)).1 : Int) := if_pos hlt2
          rw [hrr] at r0
          have hn0 : ¬ (((Utf8.decode s (skp s i)).1 : Int) < 0) := by omega
          have hn1 : decide (((Utf8.decode s (skp s i)).1 : Int) < 0) = false := decide_eq_false hn0
          have HTK := hid2 (fun W' (h' : Ct w (b + 1) W' b g cap s J v L) => token_r w (b + 1) W' b g cap s hzs J (skp s i) v L h' HPj.out hLl hlt2 HVj.out)
          have E3 := hid2 (fun k (ht : tokL s (skp s i) L = .error k) => lex_err hin hlt2 ht)
          have E4 := hid2 (fun t e (ht : tokL s (skp s i) L = .ok (t, e)) => lex_ok hin HVi.out hlt2 (tokL_ok ht).1 (tokL_ok ht).2)
          have EP := hid2 (fun t e (ht : tokL s (skp s i) L = .ok (t, e)) => tok_past hlt2 HVj.out (tokL_ok ht).2)
          have EL := hid2 (fun te (ht : tokL s (skp s i) L = .ok te) => (tokL_ok ht).1)
          generalize hrx : (Utf8.decode s (skp s i)).1 = rx at *
          generalize hjj : skp s i = j at *
          generalize htr : tokL s j L = tr at *
          clear hrr hrx
          go_wp2_with fail
          go_quiet (fail)
          have H4 := hid2 (H3.out.drewN nq)
          generalize World.drewN _ nq = W4 at *
          clear r0 r1 c0 c1 c2 c3 f0 f1 f2 f3 hlt hlg
          go_wp2_with fail
          refine Calls.mono (HTK.out _ H4.out) ?_
          intro r w5 hh
          cases tr with
          | ok te =>
            obtain ⟨t, e⟩ := te
            obtain ⟨rfl, J2, v2, C5, P5⟩ := hh
            have H5 := hid2 C5
            have HP5 := hid2 P5
            have HRR := hid2 (HR.out.trans (E4.out t e rfl))
            have hep := EP.out t e rfl
            have hne := EL.out _ rfl
            have HLE : Hid ((L ++ [t]).length ≤ 16384) := by show _ ≤ _; rw [List.length_append]; simp; omega
            clear C5 P5 E3 E4 EP EL HTK
            go_wp2_with fail
            go_roundw
            case rel => exact ⟨0, J2, e, v2, L ++ [t], rfl, H5, HP5, hep.2.2, HLE.out, HRR⟩
            case measure => rw [cuP_of H5.out HP5.out, HIc.out]; omega
          | error k =>
            obtain ⟨rfl, C5⟩ := hh
            have H5 := hid2 C5
            obtain ⟨e1, e2⟩ := E3.out k rfl
            have HRR := hid2 (HR.out.trans e1)
            have hk2 : (k != 0) = true := by simpa using e2
            have FIN := hid2 (fun q => hP.out (.slice none 0 0) (w5.drewN q) (by rw [HRR.out]; exact (if_neg e2).mpr rfl) (C5.drewN q).bel)
            rw [HRR.out] at FIN
            clear C5 E3 E4 EP EL HTK e1 e2 HR
            obtain ⟨c0, c1, c2, c3, f0, f1, f2, f3⟩ := H5.out.box.four
            have hlt := H5.out.box.lt
            have hlg := H5.out.pc.lt
            obtain ⟨r0, r1⟩ := H5.out.piece' HPj.out
            rw [HPn.out] at c1
            go_wp2_with fail
            go_quiet (fail)
            go_wp2_with fail
            go_ret3
            exact FIN.out _
        · have hjj : skp s i = s.size := by omega
          have hrr : rAt s (skp s i) = -1 := if_neg hlt2
          rw [hrr] at r0
          have HRR := hid2 (HR.out.trans (lex_end hin hlt2))
          rw [hjj] at HPj r1
          clear hrr HR
          go_wp2_with fail
          go_quiet (fail)
          have H4 := hid2 (H3.out.drewN nq)
          generalize World.drewN _ nq = W4 at *
          clear r0 r1 c0 c1 c2 c3 f0 f1 f2 f3 hlt hlg
          obtain ⟨c0, c1, c2, c3, f0, f1, f2, f3⟩ := H4.out.box.four
          have hlt := H4.out.box.lt
          go_wp2_with fail
          refine Calls.mono (put_c w (b + 1) W4 b g cap s J s.size J v L 7 (ofL []) 0 H4.out HPj.out hLl) ?_
          rintro r w5 ⟨rfl, v5, C5⟩
          have H5 := hid2 C5
          have FIN := hid2 (hP.out v5 w5 (by rw [HRR.out]; exact own_mono C5.own (by have := C5.wb; omega)) C5.bel)
          rw [HRR.out] at FIN
          clear C5 c0 c1 c2 c3 f0 f1 f2 f3 hlt
          obtain ⟨c0, c1, c2, c3, f0, f1, f2, f3⟩ := H5.out.box.four
          have hlt := H5.out.box.lt
          go_wp2_with fail
          go_ret3
          exact FIN.out
    · have hr : Hid (res = ([], sd 10 11 s (rs s 0))) := by show _ = _; rw [hres.out]; unfold cutS; rw [if_neg hlong, if_neg hs]
      have hs2 : ((sd 10 11 s (rs s 0)).2 != 0) = true := by simpa using hs
      have HF := hid2 (fun w1 (b1 : Below w.heap.size w w1) => hP.out (.slice none 0 0) w1 (by rw [hr.out, if_neg hs]) b1)
      rw [hr.out] at HF
      clear hres hr hP
      generalize CutP s w = Post at *
      go_enter Tryz.func54, Tryz.ntmps54
      go_wp2_with fail
      refine Calls.mono HC.out ?_
      rintro r w1 ⟨⟨v, rfl, hv⟩, b1⟩
      rw [if_neg hs] at hv
      subst hv
      generalize (sd 10 11 s (rs s 0)).1 = pl at *
      generalize (sd 10 11 s (rs s 0)).2 = ee at *
      go_wp2_with fail
      go_ret3
      exact HF.out _ b1
end Go.Proofs.YtecdfnpbcabdnaaGreatDoor

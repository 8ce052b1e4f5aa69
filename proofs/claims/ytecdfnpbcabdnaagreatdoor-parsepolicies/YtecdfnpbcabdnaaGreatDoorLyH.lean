/- The document's cutter: quoted texts and brackets. -/
import Derived.Test.YtecdfnpbcabdnaaGreatDoorLyF
namespace Go.Proofs.YtecdfnpbcabdnaaGreatDoor
open Go.RowKit Go.Lib

/-- Is the rune one at which what stands between ends? -/
def endR (k : Int) (r : Int) : Bool := decide (r < 0) || (decide (r = 10) || (decide (k = 8) && (decide (r = 91) || decide (r = 34))))
theorem enc_ok {k : Int} {nv : List UInt8} {d : UInt8} {s : ByteArray} {i m : Nat} (h1 : s.get! m = d) (h2 : rn s (nin nv) (i + 1) = m) (h3 : (seg s (nin nv) (i + 1)).length ≤ 64) : encT k nv d s i = .ok (⟨k, s.extract (i + 1) m, 0, i⟩, m + 1) := by
  unfold encT
  rw [h2, if_pos ⟨h1, h3⟩]
theorem enc_no {k : Int} {nv : List UInt8} {d : UInt8} {s : ByteArray} {i : Nat} (h : ¬ (s.get! (rn s (nin nv) (i + 1)) = d ∧ (seg s (nin nv) (i + 1)).length ≤ 64)) : encT k nv d s i = .error 12 := if_neg h
theorem Ct.piece' {w W : World} {B b g cap I K k : Nat} {s : ByteArray} {v : Value} {L : List Tk} (h : Ct w B W b g cap s I v L) (hp : Plc s K k) : W.cell? ⟨g, K * 2, none⟩ = some (.int .i64 (rAt s k)) ∧ W.cell? ⟨g, K * 2 + 1, none⟩ = some (.int .i64 (k : Nat)) := by
  have := pcs_get _ _ _ hp.get
  rw [Nat.mul_comm] at this
  exact ⟨h.pc.cell _ _ this.1, h.pc.cell _ _ this.2⟩
set_option maxHeartbeats 8000000 in
theorem between_r (w : World) (B : Nat) (W : World) (b g cap : Nat) (s : ByteArray) (hz : s.size ≤ 1048576) (I i : Nat) (v : Value) (L : List Tk) (h : Ct w B W b g cap s I v L) (hp : Plc s I i) (hl : L.length ≤ 16384)
    (kk st : Int) (nv : List UInt8) (d : UInt8) (hst : st = (d.toNat : Int)) (hd0 : d ≠ 0) (hd1 : d.toNat < 128) (hN : ∀ r : Nat, nin nv r = !(decide ((r : Int) = st) || endR kk (r : Int))) (hp1 : Plc s (I + 1) (i + 1)) (hv1 : Vd s (i + 1)) :
    Calls Tryz.prog 85 #[.pointer (some ⟨b, 0, none⟩), .int .i64 kk, .int .i64 st] W (TkPost w B b g cap s I v L (encT kk nv d s i)) := by
  have H := hid2 h
  obtain ⟨c0, c1, c2, c3, f0, f1, f2, f3⟩ := h.box.four
  have hlt := h.box.lt
  have hlg := h.pc.lt
  have hll := PL_len s
  have hrs := rs_length0 s
  have hIl := hp.le
  have HP := hid2 hp
  have HP1 := hid2 hp1
  have HV1 := hid2 hv1
  have HN := hid2 hN
  have HT := hid2 (fun K k (hq : Plc s K k) (hik : i + 1 ≤ k) W' J (hc : Cu W' b s J v) => text_c b s (I + 1) J K (i + 1) k v W' hc hp1 hq hik)
  have hw1 : IntKind.i64.wrap ((I : Int) + 1) = ((I + 1 : Nat) : Int) := by rw [IntKind.wrap_i64]; omega
  generalize hPn : (PL s).length = nn at *
  generalize hEq : encT kk nv d s i = tr at *
  have HQ := hid2 hEq
  clear h hp hp1 hv1 hN hEq
  go_enter Tryz.func85, Tryz.ntmps85
  go_wp2_with fail
  go_loop [7] (fun s7 => ∃ K m t : Nat, s7 = .int .i64 (K : Nat) ∧ K = I + 1 + t ∧ t ≤ 64 ∧ Hid (Plc s K m) ∧ Hid (Vd s m) ∧ i + 1 ≤ m ∧ Hid (rn s (nin nv) m = rn s (nin nv) (i + 1)) ∧ Hid ((seg s (nin nv) (i + 1)).length = t + (seg s (nin nv) m).length)) (fun s7 => (rs s 0).length + 1 - (RowKit.intOf s7).toNat)
  case atStart => exact ⟨I + 1, i + 1, 0, rfl, rfl, by omega, HP1, HV1, Nat.le_refl _, rfl, (Nat.zero_add _).symm⟩
  case round =>
    obtain ⟨K, m, t, rfl, hK, ht, HPm, HVm, him, HR, HS⟩ := hrel
    obtain ⟨r0, r1⟩ := H.out.piece' HPm.out
    have hKl := HPm.out.le
    have hI2 : (K : Int) < (nn : Int) := by omega
    have HK := hid2 hK
    have hKb : (K : Int) ≤ 1048577 := by omega
    have hIb : (I : Int) ≤ 1048577 := by omega
    have hRs := rAt_byte HVm.out d hd1 hd0
    rw [← hst] at hRs
    clear hK hPn
    by_cases hq : rAt s m = st
    · have n1 : (rAt s m != st) = false := by simp [hq]
      have hms : m < s.size := get_in (by rw [hRs.1 hq]; exact hd0)
      have hrr : (Utf8.decode s m).1 = d.toNat := by
        have : rAt s m = ((Utf8.decode s m).1 : Int) := if_pos hms
        rw [this, hst] at hq
        omega
      have hnf : nin nv (Utf8.decode s m).1 = false := by rw [HN.out, hrr, hst]; simp
      have HE : Hid (tr = .ok (⟨kk, s.extract (i + 1) m, 0, i⟩, m + 1)) := HQ.out.symm.trans (enc_ok (hRs.1 hq) (by rw [← HR.out]; exact rn_no hms hnf) (by rw [HS.out, seg_no hms hnf]; simp; exact ht))
      have HP2 := HPm.out.step hms
      rw [dec_low (by rw [hRs.1 hq]; exact hd1)] at HP2
      have HPn := hid2 HP2
      have hTT := hid2 (HT.out K m HPm.out him)
      have hw2 : IntKind.i64.wrap ((K : Int) + 1) = ((K + 1 : Nat) : Int) := by rw [IntKind.wrap_i64]; omega
      generalize rAt s m = rr at *
      clear hrr hnf HR HS HT HP2 hRs hq
      go_wp2_with fail
      refine Calls.mono (hTT.out _ _ H.out.cu) ?_
      rintro r w8 ⟨rfl, q8, rfl⟩
      have H8 := hid2 (H.out.drewN q8)
      generalize World.drewN _ q8 = W8 at *
      go_wp2_with fail
      refine Calls.mono (put_c w B W8 b g cap s I i (K + 1) v L kk (s.extract (i + 1) m) 0 H8.out HP.out hl) ?_
      rintro r w9 ⟨rfl, v9, C9⟩
      go_wp2_with fail
      go_ret
      unfold TkPost
      rw [HE.out]
      exact ⟨rfl, K + 1, v9, C9, HPn.out⟩
    · have n1 : (rAt s m != st) = true := by simpa using hq
      have hge : ¬ s.get! m = d := fun hh => hq (hRs.2 hh)
      have hER : Hid (endR kk (rAt s m) = true → tr = .error 12) := fun he => by
        refine HQ.out.symm.trans (enc_no (fun hh => hge ?_))
        have hrm : rn s (nin nv) m = m := by
          by_cases hms : m < s.size
          · refine rn_no hms ?_
            have h5 : rAt s m = ((Utf8.decode s m).1 : Int) := if_pos hms
            rw [HN.out, ← h5, he]
            simp
          · rw [rn_end hms]
            have := HPm.out.inn
            omega
        rw [HR.out] at hrm
        rw [← hrm]
        exact hh.1
      have hGO : Hid (endR kk (rAt s m) = false → m < s.size ∧ nin nv (Utf8.decode s m).1 = true) := fun he => by
        have hms : m < s.size := by
          rcases Nat.lt_or_ge m s.size with hh | hh
          · exact hh
          · have h5 : rAt s m = -1 := if_neg (by omega)
            rw [h5] at he
            simp [endR] at he
        refine ⟨hms, ?_⟩
        have h5 : rAt s m = ((Utf8.decode s m).1 : Int) := if_pos hms
        rw [HN.out, ← h5, he, decide_eq_false hq]
        rfl
      have hLG : Hid (endR kk (rAt s m) = false → 64 ≤ t → tr = .error 12) := fun he ht2 => by
        obtain ⟨g1, g2⟩ := hGO.out he
        refine HQ.out.symm.trans (enc_no (fun hh => ?_))
        have h6 := hh.2
        rw [HS.out, seg_yes g1 g2, List.length_cons] at h6
        omega
      have hw2 : IntKind.i64.wrap ((K : Int) + 1) = ((K + 1 : Nat) : Int) := by rw [IntKind.wrap_i64]; omega
      have hw3 : IntKind.i64.wrap ((I : Int) + 64) = (I : Int) + 64 := by rw [IntKind.wrap_i64]; omega
      have fin : Hid (∀ w', tr = .error 12 → w' = W → TkPost w B b g cap s I v L tr (.returned (.int .i64 12)) w') := fun w' h1 h2 => by
        rw [h1, h2]
        exact ⟨rfl, H.out⟩
      generalize rAt s m = rr at *
      clear hge hRs hq
      cases hend : endR kk rr with
      | true =>
        have htr := hER.out hend
        have FIN := hid2 (fin.out W htr rfl)
        have hx : (rr < 0) ∨ (¬ rr < 0 ∧ rr = 10) ∨ (¬ rr < 0 ∧ ¬ rr = 10 ∧ kk = 8 ∧ rr = 91) ∨ (¬ rr < 0 ∧ ¬ rr = 10 ∧ kk = 8 ∧ ¬ rr = 91 ∧ rr = 34) := by
          unfold endR at hend
          simp only [Bool.or_eq_true, Bool.and_eq_true, decide_eq_true_eq] at hend
          omega
        clear fin hER hGO hLG hend htr
        rcases hx with h1 | ⟨h1, h2⟩ | ⟨h1, h2, rfl, rfl⟩ | ⟨h1, h2, rfl, h3, rfl⟩
        · go_wp2_with fail
          go_ret
          exact FIN.out
        · subst h2
          go_wp2_with fail
          go_ret
          exact FIN.out
        · go_wp2_with fail
          go_ret
          exact FIN.out
        · go_wp2_with fail
          go_ret
          exact FIN.out
      | false =>
        have hx : ¬ rr < 0 ∧ ¬ rr = 10 ∧ ((kk = 8 ∧ ¬ rr = 91 ∧ ¬ rr = 34) ∨ ¬ kk = 8) := by
          unfold endR at hend
          simp only [Bool.or_eq_false_iff, Bool.and_eq_false_iff, decide_eq_false_iff_not] at hend
          omega
        obtain ⟨x1, x2, ⟨rfl, x3, x4⟩ | x3⟩ := hx
        · have y2 : (rr == 10) = false := beq_eq_false_iff_ne.2 x2
          have y3 : (rr == 91) = false := beq_eq_false_iff_ne.2 x3
          have y4 : (rr == 34) = false := beq_eq_false_iff_ne.2 x4
          by_cases h64 : 64 ≤ t
          · have FIN := hid2 (fin.out W (hLG.out hend h64) rfl)
            have h65 : (I : Int) + 64 < (K : Int) := by have := HK.out; omega
            clear fin hER hGO hLG hend h64
            go_wp2_with fail
            go_ret
            exact FIN.out
          · obtain ⟨g1, g2⟩ := hGO.out hend
            have h65 : ¬ ((I : Int) + 64 < (K : Int)) := by have := HK.out; omega
            have P2 := hid2 (HPm.out.step g1)
            have V2 := hid2 (HVm.out.step g1).2.2
            have hwp := width_pos s m
            have R2 : Hid (rn s (nin nv) (m + (Utf8.decode s m).2) = rn s (nin nv) (i + 1)) := by show _ = _; rw [← HR.out]; exact (rn_yes g1 g2).symm
            have S2 : Hid ((seg s (nin nv) (i + 1)).length = (t + 1) + (seg s (nin nv) (m + (Utf8.decode s m).2)).length) := by
              show _ = _
              rw [HS.out, seg_yes g1 g2, List.length_cons]
              omega
            have hle2 := P2.out.le
            have K2 : Hid (K + 1 = I + 1 + (t + 1)) := by show _ = _; rw [HK.out]; omega
            clear fin hER hGO hLG hend g1 g2
            go_wp2_with fail
            go_round
            case rel => exact ⟨K + 1, m + (Utf8.decode s m).2, t + 1, rfl, K2.out, by omega, P2, V2, by omega, R2, S2⟩
            case measure => simp [RowKit.intOf]; omega
        · have y2 : (rr == 10) = false := beq_eq_false_iff_ne.2 x2
          have y3 : (kk == 8) = false := beq_eq_false_iff_ne.2 x3
          by_cases h64 : 64 ≤ t
          · have FIN := hid2 (fin.out W (hLG.out hend h64) rfl)
            have h65 : (I : Int) + 64 < (K : Int) := by have := HK.out; omega
            clear fin hER hGO hLG hend h64
            go_wp2_with fail
            go_ret
            exact FIN.out
          · obtain ⟨g1, g2⟩ := hGO.out hend
            have h65 : ¬ ((I : Int) + 64 < (K : Int)) := by have := HK.out; omega
            have P2 := hid2 (HPm.out.step g1)
            have V2 := hid2 (HVm.out.step g1).2.2
            have hwp := width_pos s m
            have R2 : Hid (rn s (nin nv) (m + (Utf8.decode s m).2) = rn s (nin nv) (i + 1)) := by show _ = _; rw [← HR.out]; exact (rn_yes g1 g2).symm
            have S2 : Hid ((seg s (nin nv) (i + 1)).length = (t + 1) + (seg s (nin nv) (m + (Utf8.decode s m).2)).length) := by
              show _ = _
              rw [HS.out, seg_yes g1 g2, List.length_cons]
              omega
            have hle2 := P2.out.le
            have K2 : Hid (K + 1 = I + 1 + (t + 1)) := by show _ = _; rw [HK.out]; omega
            clear fin hER hGO hLG hend g1 g2
            go_wp2_with fail
            go_round
            case rel => exact ⟨K + 1, m + (Utf8.decode s m).2, t + 1, rfl, K2.out, by omega, P2, V2, by omega, R2, S2⟩
            case measure => simp [RowKit.intOf]; omega
end Go.Proofs.YtecdfnpbcabdnaaGreatDoor

/- The document's cutter: the next token. -/
import Derived.Test.YtecdfnpbcabdnaaGreatDoorLyN
import Derived.Test.YtecdfnpbcabdnaaGreatDoorLyA
import Derived.Test.YtecdfnpbcabdnaaGreatDoorLyG
namespace Go.Proofs.YtecdfnpbcabdnaaGreatDoor
open Go.RowKit Go.Lib

/-- The next token, if there is room. -/
def tokL (s : ByteArray) (i : Nat) (L : List Tk) : TR := if L.length = 16384 then .error 14 else tok s i
theorem TkPost.val {w : World} {B b g cap : Nat} {s : ByteArray} {I : Nat} {v : Value} {L : List Tk} {tr : TR} {e : Ending} {w' : World} (h : TkPost w B b g cap s I v L tr e w') : ∃ k, e = .returned (.int .i64 k) := by
  unfold TkPost at h
  cases tr with
  | ok te => exact ⟨_, h.1⟩
  | error k => exact ⟨_, h.1⟩
theorem nin4 (r : Nat) : nin [34, 10] r = !(decide ((r : Int) = 34) || endR 4 (r : Int)) := by
  unfold nin endR
  simp only [List.any_cons, List.any_nil]
  congr 1
  rw [Bool.eq_iff_iff]
  simp
  omega
theorem nin8 (r : Nat) : nin [91, 93, 34, 10] r = !(decide ((r : Int) = 93) || endR 8 (r : Int)) := by
  unfold nin endR
  simp only [List.any_cons, List.any_nil]
  congr 1
  rw [Bool.eq_iff_iff]
  simp
  omega
theorem sign_r (w : World) (B : Nat) (W : World) (b g cap : Nat) (s : ByteArray) (hz : s.size ≤ 1048576) (I i : Nat) (v : Value) (L : List Tk) (h : Ct w B W b g cap s I v L) (hp : Plc s I i) (hl : L.length ≤ 16384) (hi : i < s.size) (hv : Vd s i) :
    Calls Tryz.prog 86 #[.pointer (some ⟨b, 0, none⟩)] W (TkPost w B b g cap s I v L (sigT s i)) := by
  cases htw : two (s.get! i) (s.get! (i + 1)) with
  | true => exact sign_two w B W b g cap s hz I i v L h hp hl hi hv htw
  | false => exact sign_one w B W b g cap s hz I i v L h hp hl hi hv htw
set_option maxHeartbeats 8000000 in
theorem token_r (w : World) (B : Nat) (W : World) (b g cap : Nat) (s : ByteArray) (hz : s.size ≤ 1048576) (I i : Nat) (v : Value) (L : List Tk) (h : Ct w B W b g cap s I v L) (hp : Plc s I i) (hl : L.length ≤ 16384) (hi : i < s.size) (hv : Vd s i) :
    Calls Tryz.prog 57 #[.pointer (some ⟨b, 0, none⟩)] W (TkPost w B b g cap s I v L (tokL s i L)) := by
  obtain ⟨va, vc, hvv⟩ := own_val h.own
  subst hvv
  have H := hid2 h
  have HP := hid2 hp
  obtain ⟨c0, c1, c2, c3, f0, f1, f2, f3⟩ := h.box.four
  have hlt := h.box.lt
  have hlg := h.pc.lt
  have hll := PL_len s
  have hrs := rs_length0 s
  have hIl := hp.le
  obtain ⟨r0, r1⟩ := h.piece' hp
  have hI2 : (I : Int) < (((PL s).length : Nat) : Int) := by omega
  by_cases hL : L.length = 16384
  · have HE : Hid (tokL s i L = .error 14) := if_pos hL
    have FIN : Hid (TkPost w B b g cap s I (.slice va L.length vc) L (tokL s i L) (.returned (.int .i64 14)) W) := by
      show TkPost _ _ _ _ _ _ _ _ _ _ _ _
      rw [HE.out]
      exact ⟨rfl, h⟩
    generalize TkPost w B b g cap s I (.slice va L.length vc) L (tokL s i L) = Post at *
    rw [hL] at c3
    clear h hp hL hl
    go_enter Tryz.func57, Tryz.ntmps57
    go_wp2_with fail
    exact FIN.out
  · have hL3 : ((L.length : Int) == 16384) = false := beq_eq_false_iff_ne.2 (by omega)
    have HE : Hid (tokL s i L = tok s i) := if_neg hL
    rw [HE.out]
    have k1 := rAt_cls hp.inn 1
    have k2 := rAt_cls hp.inn 2
    have hc1 := cls_in s 1 i hp.inn
    have hc2 := cls_in s 2 i hp.inn
    have C1 := fun W' J (hc : Cu W' b s J (.slice va L.length vc)) => class_c b s I J i (.slice va L.length vc) 1 W' hc hp
    have C2 := fun W' J (hc : Cu W' b s J (.slice va L.length vc)) => class_c b s I J i (.slice va L.length vc) 2 W' hc hp
    by_cases h1 : cls s 1 i ≠ i
    · rw [k1, decide_eq_true (by omega)] at C1
      have HC1 := hid2 C1
      have hc3 := cls_in s 3 i hp.inn
      have hN : Plc s (I + (seg s (fun r => isC (r : Int) 3) i).length) (cls s 3 i) := Plc.run (fun r => isC (r : Int) 3) i I hp
      have HN := hid2 hN
      have HR := hid2 (fun W' J (hc : Cu W' b s J (.slice va L.length vc)) => run_r b s hz I J i (.slice va L.length vc) 3 W' hc hp)
      have HT := hid2 (fun W' J (hc : Cu W' b s J (.slice va L.length vc)) => text_c b s I J _ i (cls s 3 i) (.slice va L.length vc) W' hc hp hN hc3.1)
      have HV := hid2 (fun wx => rReserved_c (s.extract i (cls s 3 i)) wx)
      have hT : tok s i = wordT s i := if_pos h1
      rw [hT]
      have W1 : Hid (resv (s.extract i (cls s 3 i)).data.toList = true → wordT s i = .ok (⟨6, s.extract i (cls s 3 i), 0, i⟩, cls s 3 i)) := fun hh => if_pos hh
      have W2 : Hid (resv (s.extract i (cls s 3 i)).data.toList = false → (seg s (fun r => isC (r : Int) 3) i).length ≤ 32 → wordT s i = .ok (⟨1, s.extract i (cls s 3 i), 0, i⟩, cls s 3 i)) := fun hh h2 => by
        unfold wordT
        rw [hh, if_neg (by decide), if_pos h2]
      have W3 : Hid (resv (s.extract i (cls s 3 i)).data.toList = false → ¬ (seg s (fun r => isC (r : Int) 3) i).length ≤ 32 → wordT s i = .error 12) := fun hh h2 => by
        unfold wordT
        rw [hh, if_neg (by decide), if_neg h2]
      have hNl := hN.le
      generalize resv (s.extract i (cls s 3 i)).data.toList = rv at *
      generalize s.extract i (cls s 3 i) = x at *
      generalize cls s 3 i = e at *
      generalize wordT s i = tr at *
      generalize (seg s (fun r => isC (r : Int) 3) i).length = m at *
      have hw : IntKind.i64.wrap (((I + m : Nat) : Int) - (I : Int)) = (m : Int) := by rw [IntKind.wrap_i64]; omega
      generalize hNm : I + m = N at *
      generalize hPn : (PL s).length = nn at *
      clear h hp C1 C2 k1 k2 hN hT h1
      cases rv with
      | true =>
        have hE := W1.out rfl
        subst hE
        clear W1 W2 W3
        go_enter Tryz.func57, Tryz.ntmps57
        go_wp2_with fail
        refine Calls.mono (HC1.out _ _ H.out.cu) ?_
        rintro r w1 ⟨rfl, rfl⟩
        go_wp2_with fail
        refine Calls.mono (HR.out _ _ H.out.cu) ?_
        rintro r w2 ⟨rfl, rfl⟩
        go_wp2_with fail
        refine Calls.mono (HT.out _ _ H.out.cu) ?_
        rintro r w3 ⟨rfl, q3, rfl⟩
        have H3 := hid2 (H.out.drewN q3)
        generalize World.drewN _ q3 = W3 at *
        go_wp2_with fail
        refine Calls.mono (HV.out _) ?_
        rintro r w4 ⟨rfl, b4⟩
        have H4 := hid2 (H3.out.next b4)
        clear b4
        go_wp2_with fail
        refine Calls.mono (put_c w B w4 b g cap s I i N _ L 6 x 0 H4.out HP.out hl) ?_
        rintro r w5 ⟨rfl, v5, C5⟩
        go_wp2_with fail
        go_ret
        exact ⟨rfl, N, v5, C5, HN.out⟩
      | false =>
        by_cases hm : m ≤ 32
        · have hE := W2.out rfl hm
          subst hE
          have hm2 : ¬ ((32 : Int) < (m : Int)) := by omega
          clear W1 W2 W3
          go_enter Tryz.func57, Tryz.ntmps57
          go_wp2_with fail
          refine Calls.mono (HC1.out _ _ H.out.cu) ?_
          rintro r w1 ⟨rfl, rfl⟩
          go_wp2_with fail
          refine Calls.mono (HR.out _ _ H.out.cu) ?_
          rintro r w2 ⟨rfl, rfl⟩
          go_wp2_with fail
          refine Calls.mono (HT.out _ _ H.out.cu) ?_
          rintro r w3 ⟨rfl, q3, rfl⟩
          have H3 := hid2 (H.out.drewN q3)
          generalize World.drewN _ q3 = W3 at *
          go_wp2_with fail
          refine Calls.mono (HV.out _) ?_
          rintro r w4 ⟨rfl, b4⟩
          have H4 := hid2 (H3.out.next b4)
          obtain ⟨d0, d1, d2, d3, _⟩ := H4.out.box.four
          have dl := H4.out.box.lt
          clear b4
          go_wp2_with fail
          refine Calls.mono (put_c w B w4 b g cap s I i N _ L 1 x 0 H4.out HP.out hl) ?_
          rintro r w5 ⟨rfl, v5, C5⟩
          go_wp2_with fail
          go_ret
          exact ⟨rfl, N, v5, C5, HN.out⟩
        · have hE := W3.out rfl hm
          subst hE
          have hm2 : (32 : Int) < (m : Int) := by omega
          clear W1 W2 W3
          go_enter Tryz.func57, Tryz.ntmps57
          go_wp2_with fail
          refine Calls.mono (HC1.out _ _ H.out.cu) ?_
          rintro r w1 ⟨rfl, rfl⟩
          go_wp2_with fail
          refine Calls.mono (HR.out _ _ H.out.cu) ?_
          rintro r w2 ⟨rfl, rfl⟩
          go_wp2_with fail
          refine Calls.mono (HT.out _ _ H.out.cu) ?_
          rintro r w3 ⟨rfl, q3, rfl⟩
          have H3 := hid2 (H.out.drewN q3)
          generalize World.drewN _ q3 = W3 at *
          go_wp2_with fail
          refine Calls.mono (HV.out _) ?_
          rintro r w4 ⟨rfl, b4⟩
          have H4 := hid2 (H3.out.next b4)
          obtain ⟨d0, d1, d2, d3, _⟩ := H4.out.box.four
          have dl := H4.out.box.lt
          clear b4
          go_wp2_with fail
          go_ret
          exact ⟨rfl, H4.out⟩
    · rw [k1, decide_eq_false (by omega)] at C1
      have HC1 := hid2 C1
      by_cases h2 : cls s 2 i ≠ i
      · rw [k2, decide_eq_true (by omega)] at C2
        have HC2 := hid2 C2
        have hT : tok s i = numT s i := by unfold tok; rw [if_neg h1, if_pos h2]
        rw [hT]
        have HF := hid2 (number_r w B W b g cap s hz I i (.slice va L.length vc) L h hp hv hl)
        generalize hPn : (PL s).length = nn at *
        clear h hp C1 C2 k1 k2 hT h1 h2
        go_enter Tryz.func57, Tryz.ntmps57
        go_wp2_with fail
        refine Calls.mono (HC1.out _ _ H.out.cu) ?_
        rintro r w1 ⟨rfl, rfl⟩
        go_wp2_with fail
        refine Calls.mono (HC2.out _ _ H.out.cu) ?_
        rintro r w2 ⟨rfl, rfl⟩
        go_wp2_with fail
        refine Calls.mono HF.out ?_
        intro r w3 hh
        obtain ⟨k, rfl⟩ := hh.val
        have K := hid2 hh
        clear hh
        go_wp2_with fail
        go_ret
        exact K.out
      · rw [k2, decide_eq_false (by omega)] at C2
        have HC2 := hid2 C2
        have e34 : rAt s i = 34 ↔ s.get! i = 34 := rAt_byte hv 34 (by decide) (by decide)
        have e91 : rAt s i = 91 ↔ s.get! i = 91 := rAt_byte hv 91 (by decide) (by decide)
        by_cases h34 : s.get! i = 34
        · have hT : tok s i = encT 4 [34, 10] 34 s i := by unfold tok; rw [if_neg h1, if_neg h2, if_pos h34]
          rw [hT]
          have hlow : (s.get! i).toNat < 128 := by rw [h34]; decide
          have hp1 := hp.step hi
          rw [dec_low hlow] at hp1
          have hv1 := vd_low hv (by rw [h34]; decide) hlow
          have HF := hid2 (fun W' (h' : Ct w B W' b g cap s I (.slice va L.length vc) L) => between_r w B W' b g cap s hz I i (.slice va L.length vc) L h' hp hl 4 34 [34, 10] 34 rfl (by decide) (by decide) nin4 hp1 hv1)
          have q1 : (rAt s i == 34) = true := by simpa using e34.2 h34
          have q2 := e34.2 h34
          rw [q2] at r0
          generalize hPn : (PL s).length = nn at *
          clear h hp C1 C2 k1 k2 hT h1 h2 e34 e91 q1 q2 hp1 hv1
          go_enter Tryz.func57, Tryz.ntmps57
          go_wp2_with fail
          refine Calls.mono (HC1.out _ _ H.out.cu) ?_
          rintro r w1 ⟨rfl, rfl⟩
          go_wp2_with fail
          refine Calls.mono (HC2.out _ _ H.out.cu) ?_
          rintro r w2 ⟨rfl, rfl⟩
          go_wp2_with fail
          go_quiet (fail)
          have H1 := hid2 (H.out.drewN nq)
          generalize World.drewN _ nq = W1 at *
          go_wp2_with fail
          refine Calls.mono (HF.out _ H1.out) ?_
          intro r w3 hh
          obtain ⟨k, rfl⟩ := hh.val
          have K := hid2 hh
          clear hh
          go_wp2_with fail
          go_ret
          exact K.out
        · have q1 : (rAt s i == 34) = false := beq_eq_false_iff_ne.2 (fun hh => h34 (e34.1 hh))
          by_cases h91 : s.get! i = 91
          · have hT : tok s i = encT 8 [91, 93, 34, 10] 93 s i := by unfold tok; rw [if_neg h1, if_neg h2, if_neg h34, if_pos h91]
            rw [hT]
            have hlow : (s.get! i).toNat < 128 := by rw [h91]; decide
            have hp1 := hp.step hi
            rw [dec_low hlow] at hp1
            have hv1 := vd_low hv (by rw [h91]; decide) hlow
            have HF := hid2 (fun W' (h' : Ct w B W' b g cap s I (.slice va L.length vc) L) => between_r w B W' b g cap s hz I i (.slice va L.length vc) L h' hp hl 8 93 [91, 93, 34, 10] 93 rfl (by decide) (by decide) nin8 hp1 hv1)
            have HQ := hid2 (e91.2 h91)
            have q2 := e91.2 h91
            rw [q2] at r0
            generalize hPn : (PL s).length = nn at *
            clear h hp C1 C2 k1 k2 hT h1 h2 e34 e91 q1 q2 hp1 hv1
            go_enter Tryz.func57, Tryz.ntmps57
            go_wp2_with fail
            refine Calls.mono (HC1.out _ _ H.out.cu) ?_
            rintro r w1 ⟨rfl, rfl⟩
            go_wp2_with fail
            refine Calls.mono (HC2.out _ _ H.out.cu) ?_
            rintro r w2 ⟨rfl, rfl⟩
            go_wp2_with fail
            go_quiet (fail)
            have H1 := hid2 (H.out.drewN nq)
            generalize World.drewN _ nq = W1 at *
            clear r0 r1 c0 c1 c2 c3 f0 f1 f2 f3 hlt hlg
            obtain ⟨c0, c1, c2, c3, f0, f1, f2, f3⟩ := H1.out.box.four
            have hlt := H1.out.box.lt
            have hlg := H1.out.pc.lt
            obtain ⟨r0, _⟩ := H1.out.piece' HP.out
            rw [HQ.out] at r0
            rw [hPn] at c1
            go_wp2_with fail
            go_quiet (fail)
            have H2 := hid2 (H1.out.drewN nq)
            generalize World.drewN _ nq = W2 at *
            go_wp2_with fail
            refine Calls.mono (HF.out _ H2.out) ?_
            intro r w3 hh
            obtain ⟨k, rfl⟩ := hh.val
            have K := hid2 hh
            clear hh
            go_wp2_with fail
            go_ret
            exact K.out
          · have hT : tok s i = sigT s i := by unfold tok; rw [if_neg h1, if_neg h2, if_neg h34, if_neg h91]
            rw [hT]
            have HF := hid2 (fun W' (h' : Ct w B W' b g cap s I (.slice va L.length vc) L) => sign_r w B W' b g cap s hz I i (.slice va L.length vc) L h' hp hl hi hv)
            have q3 : (rAt s i == 91) = false := beq_eq_false_iff_ne.2 (fun hh => h91 (e91.1 hh))
            obtain ⟨rr, hrr⟩ : ∃ rr, rAt s i = rr := ⟨_, rfl⟩
            have HQ := hid2 hrr
            rw [hrr] at r0 q1 q3
            generalize hPn : (PL s).length = nn at *
            clear h hp C1 C2 k1 k2 hT h1 h2 e34 e91 hrr
            go_enter Tryz.func57, Tryz.ntmps57
            go_wp2_with fail
            refine Calls.mono (HC1.out _ _ H.out.cu) ?_
            rintro r w1 ⟨rfl, rfl⟩
            go_wp2_with fail
            refine Calls.mono (HC2.out _ _ H.out.cu) ?_
            rintro r w2 ⟨rfl, rfl⟩
            go_wp2_with fail
            go_quiet (fail)
            have H1 := hid2 (H.out.drewN nq)
            generalize World.drewN _ nq = W1 at *
            clear r0 r1 c0 c1 c2 c3 f0 f1 f2 f3 hlt hlg
            obtain ⟨c0, c1, c2, c3, f0, f1, f2, f3⟩ := H1.out.box.four
            have hlt := H1.out.box.lt
            have hlg := H1.out.pc.lt
            obtain ⟨r0, _⟩ := H1.out.piece' HP.out
            rw [HQ.out] at r0
            rw [hPn] at c1
            go_wp2_with fail
            go_quiet (fail)
            have H2 := hid2 (H1.out.drewN nq)
            generalize World.drewN _ nq = W2 at *
            go_wp2_with fail
            refine Calls.mono (HF.out _ H2.out) ?_
            intro r w3 hh
            obtain ⟨k, rfl⟩ := hh.val
            have K := hid2 hh
            clear hh
            go_wp2_with fail
            go_ret
            exact K.out
end Go.Proofs.YtecdfnpbcabdnaaGreatDoor

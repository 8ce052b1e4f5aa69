/- Package cron: Next. -/
import Derived.Test.YtddinknnaakmmaaDoorCroY
namespace Go.Proofs.YtddinknnaakmmaaDoor
open Go.RowKit Go.Deep

/-- What Next answers. -/
def NextPost (c : Cr) (t : Int) (w : World) (e : Ending) (w' : World) : Prop :=
  ∃ n b, e = .returned (.tuple #[.int .i64 n, .bool b]) ∧ (cfB c = true → NextR c t n b) ∧ (cfB c = false → n = 0 ∧ b = false) ∧ Below w.heap.size w w'
/-- How far Next has looked: no minute ahead of T is named. -/
structure Looked (c : Cr) (t : Int) (i : Nat) (T : Int) : Prop where
  i1 : i ≤ 10228
  le : t ≤ T
  lt : T < 9223372036854775808
  day : T / 86400 = t / 86400 + i
  free : Free c t T
theorem Looked.hit {c : Cr} {t : Int} {i : Nat} {T : Int} {d : Civ} {m k : Nat} (h : Looked c t i T) (hi : i < 10228) (ha : At T d) (hd : dayB c d = true) (hm : (m : Int) = (T % 86400 + 59) / 60) (hr : MinR c m k true) (hf : T + ((k : Int) * 60 - T % 86400) < 9223372036854775808) :
    NextR c t (T + ((k : Int) * 60 - T % 86400)) true := by
  obtain ⟨h1, h2, h3, h4⟩ := hit_day ha.date rfl hm hd hr
  have e : T / 86400 * 86400 + 60 * (k : Int) = T + ((k : Int) * 60 - T % 86400) := by omega
  rw [e] at h1 h2 h3 h4
  have := h.le
  have hday := h.day
  exact nextR_hit (by omega) (by omega) hf (by omega) h3 (h.free.trans h4)
theorem Looked.far {c : Cr} {t : Int} {i : Nat} {T : Int} {d : Civ} {m k : Nat} (h : Looked c t i T) (ha : At T d) (hd : dayB c d = true) (hm : (m : Int) = (T % 86400 + 59) / 60) (hr : MinR c m k true) (hf : ¬ T + ((k : Int) * 60 - T % 86400) < 9223372036854775808) :
    NextR c t 0 false := by
  obtain ⟨h1, h2, h3, h4⟩ := hit_day ha.date rfl hm hd hr
  have e : T / 86400 * 86400 + 60 * (k : Int) = T + ((k : Int) * 60 - T % 86400) := by omega
  rw [e] at h1 h2 h3 h4
  exact nextR_far (by omega) (h.free.trans h4)
theorem Looked.bare {c : Cr} {t : Int} {i : Nat} {T : Int} {d : Civ} {m k : Nat} (h : Looked c t i T) (ha : At T d) (hm : (m : Int) = (T % 86400 + 59) / 60) (hd : dayB c d = false ∨ MinR c m k false) :
    Free c t (T + (86400 - T % 86400)) := by
  have e : (T / 86400 + 1) * 86400 = T + (86400 - T % 86400) := by omega
  rw [← e]
  refine h.free.trans ?_
  rcases hd with q | q
  · exact free_bare ha.date rfl q
  · exact free_late ha.date rfl (Int.le_of_eq hm) (q.no rfl)
theorem Looked.next {c : Cr} {t : Int} {i : Nat} {T : Int} (h : Looked c t i T) (hi : i < 10228) (hf : Free c t (T + (86400 - T % 86400))) (hl : T + (86400 - T % 86400) < 9223372036854775808) : Looked c t (i + 1) (T + (86400 - T % 86400)) :=
  ⟨by omega, by have := h.le; omega, hl, by have := h.day; omega, hf⟩
theorem Looked.over {c : Cr} {t : Int} {T : Int} (hf : Free c t (T + (86400 - T % 86400))) (hl : ¬ T + (86400 - T % 86400) < 9223372036854775808) : NextR c t 0 false :=
  nextR_far (by omega) hf
theorem Looked.done {c : Cr} {t : Int} {T : Int} (h : Looked c t 10228 T) : NextR c t 0 false := by
  have hd := h.day
  exact nextR_none fun m k1 k2 k3 => h.free m k1 (by omega) k3
set_option maxRecDepth 20000 in
set_option maxHeartbeats 8000000 in
theorem Next_any (c : Cr) (fc : c.Fits) (t : Int) (t0 : -9223372036854775808 ≤ t) (t1 : t < 9223372036854775808) (w : World) (hL : LenAt w) (hF : FldAt w) (hT : TzAt w) :
    Calls Tryd.prog 18 #[cronV c, .int .i64 t] w (NextPost c t w) := by
  obtain ⟨cb, l0⟩ := one_box w 25 (u5 c.a c.b c.c c.d c.e)
  have hfm := Formed_any c fc _ (hF.later l0)
  obtain ⟨o0, o1, o2, o3, o4, _⟩ := cb.five
  have HF : Hid _ := hfm
  clear hfm
  cases hc : cfB c with
  | false =>
    have HC : Hid _ := hc
    clear hc
    go_enter Tryd.func18, Tryd.ntmps18
    go_wp2_with fail
    refine Calls.mono HF.out ?_
    rintro e w1 ⟨rfl, hb1⟩
    rw [HC.out]
    go_wp2_with fail
    go_ret2
    exact ⟨0, false, rfl, (fun h => by rw [HC.out] at h; cases h), (fun _ => ⟨rfl, rfl⟩), l0.trans (hb1.mono l0.size)⟩
  | true =>
    have hset := cfB_set fc hc
    have ha : OkSet c.a 0 59 := hset 0 (by omega)
    have hb : OkSet c.b 0 23 := hset 1 (by omega)
    have fin : ∀ (n : Int) (b : Bool) (w' : World), NextR c t n b → Below w.heap.size w w' → NextPost c t w (.returned (.tuple #[.int .i64 n, .bool b])) w' := fun n b w' h1 h2 =>
      ⟨n, b, rfl, (fun _ => h1), (fun h => by rw [hc] at h; cases h), h2⟩
    have HC : Hid _ := hc
    have FIN : Hid _ := fin
    have hmf := fun m hm wx hx => minuteFrom_any c fc ha hb m hm wx hx
    have hnd := fun (d : Civ) (D : Int) (hd : Date D d) wx => namesDay_any c fc d hd wx
    have hlk : Looked c t 0 t := ⟨by omega, by omega, t1, by omega, Free.nil _ _⟩
    have HMF : Hid _ := hmf
    have HND : Hid _ := hnd
    have HLK : Hid _ := hlk
    clear hc fin hmf hnd hset ha hb hlk
    go_enter Tryd.func18, Tryd.ntmps18
    go_wp2_with fail
    refine Calls.mono HF.out ?_
    rintro e w1 ⟨rfl, hb1⟩
    rw [HC.out]
    have bl1 := l0.trans (hb1.mono l0.size)
    have cb1 := cb.next hb1
    have hL1 := (hL.later l0).later hb1
    have hT1 := (hT.later l0).later hb1
    clear o0 o1 o2 o3 o4 hb1 cb l0 hL hT hF HF
    go_wp2_with fail
    go_loopw [1, 15] (fun p q wr => ∃ (T : Int) (i : Nat), p = .int .i64 T ∧ q = .int .i64 i ∧ Looked c t i T ∧ Box wr w.heap.size (u5 c.a c.b c.c c.d c.e) ∧ LenAt wr ∧ TzAt wr ∧ Below w.heap.size w wr) (fun _ q _ => (10228 - intOf q).toNat)
    case atStart => exact ⟨t, 0, rfl, rfl, HLK.out, cb1, hL1, hT1, bl1⟩
    case round =>
      obtain ⟨T, i, rfl, rfl, hlk, cb, hL, hT, bl⟩ := hrel
      clear cb1 hL1 hT1 bl1 HLK
      have hi := hlk.i1
      have T0 : -9223372036854775808 ≤ T := by have := hlk.le; omega
      have T1 := hlk.lt
      by_cases hlt : i < 10228
      · have k1 : (i : Int) < 10228 := by omega
        have hO := Of_any T T0 T1 wr hL
        have HLK : Hid _ := hlk
        have HO : Hid _ := hO
        clear hlk hO
        go_wp2_with fail
        refine Calls.mono HO.out ?_
        rintro e w2 ⟨d, rfl, hat, y0, y1, hb2⟩
        have cb2 := cb.next hb2
        have bl2 := bl.trans (hb2.mono bl.size)
        have hL2 := hL.later hb2
        have hT2 := hT.later hb2
        obtain ⟨xb, l2⟩ := one_box w2 60 (civCells d)
        have cb3 := cb2.next l2
        have bl3 := bl2.trans (l2.mono bl2.size)
        have hL3 := hL2.later l2
        have hT3 := hT2.later l2
        have hp := hat.parts.2
        have f := hat.f
        have f1 := f.h0; have f2 := f.h1; have f3 := f.n0; have f4 := f.n1; have f5 := f.s0; have f6 := f.s1
        have hnd := fun wx => HND.out d _ hat.date wx
        have HAT : Hid _ := hat
        have HNDD : Hid _ := hnd
        have HP : Hid _ := hp
        obtain ⟨o0, o1, o2, o3, o4, _⟩ := cb3.five
        obtain ⟨p0, p1, p2, p3, p4, p5, p6, _⟩ := xb.seven
        clear hat hnd hp f cb bl hL hT hb2 cb2 bl2 hL2 hT2 l2 y0 y1 HO
        go_wp2_with fail
        refine (HNDD.out _).mono ?_
        rintro e w4 ⟨rfl, hb4⟩
        have cb4 := cb3.next hb4
        have bl4 := bl3.trans (hb4.mono bl3.size)
        have hL4 := hL3.later hb4
        have hT4 := hT3.later hb4
        have eG : (d.hour * 60 + d.minute) * 60 + d.second = T % 86400 := by have := HP.out; omega
        have A1 : Hid _ := fun m k hm hd hr hf => HLK.out.hit (d := d) (m := m) (k := k) hlt HAT.out hd hm hr hf
        have A2 : Hid _ := fun m k hm hd hr hf => HLK.out.far (d := d) (m := m) (k := k) HAT.out hd hm hr hf
        have A3 : Hid _ := fun m k hm hd => HLK.out.bare (d := d) (m := m) (k := k) HAT.out hm hd
        have A4 : Hid _ := fun hf hl => HLK.out.next hlt hf hl
        have A5 : Hid _ := fun hf hl => Looked.over (c := c) (t := t) (T := T) hf hl
        have G0 : 0 ≤ T % 86400 := by omega
        have G1 : T % 86400 < 86400 := by omega
        rw [eG]
        clear o0 o1 o2 o3 o4 p0 p1 p2 p3 p4 p5 p6 xb cb3 bl3 hL3 hT3 hb4 eG HP f1 f2 f3 f4 f5 f6 HAT HNDD HLK HND
        generalize T % 86400 = G at *
        obtain ⟨m, hm⟩ : ∃ m : Nat, (m : Int) = (G + 59) / 60 := ⟨((G + 59) / 60).toNat, by omega⟩
        have hm1 : m ≤ 1440 := by omega
        have HMM : Hid _ := hm
        clear hm
        cases hdb : dayB c d with
        | false =>
          have HFR : Hid _ := A3.out m 0 HMM.out (.inl hdb)
          have cbZ := cb4
          have blZ := bl4
          have hLZ := hL4
          have hTZ := hT4
          clear hdb cb4 bl4 hL4 hT4
          go_wp2_with fail
          have hl2 := later_any T (86400 - G) T0 T1 (by omega) (by omega)
          by_cases hf : T + (86400 - G) < 9223372036854775808
          · rw [if_pos hf] at hl2
            have HLN : Hid _ := A4.out HFR.out hf
            have HL2 : Hid _ := hl2
            clear hl2
            refine (HL2.out _).mono ?_
            rintro e w6 ⟨rfl, rfl⟩
            go_wp2_with fail
            exact ⟨⟨_, i + 1, rfl, by go_num, HLN.out, cbZ, hLZ, hTZ, blZ⟩, by simp [intOf]; omega⟩
          · rw [if_neg hf] at hl2
            have HLN : Hid _ := A5.out HFR.out (by omega)
            have HL2 : Hid _ := hl2
            clear hl2
            refine (HL2.out _).mono ?_
            rintro e w6 ⟨rfl, rfl⟩
            go_wp2_with fail
            go_ret2
            exact FIN.out _ _ _ HLN.out blZ
        | true =>
          have HDB : Hid _ := hdb
          have hmf := HMF.out m hm1 _ hT4
          have HM2 : Hid _ := hmf
          obtain ⟨o0, o1, o2, o3, o4, _⟩ := cb4.five
          have em : (G + 60 - 1).tdiv 60 = (m : Int) := by rw [Int.tdiv_eq_ediv_of_nonneg (by omega), HMM.out]; congr 1; omega
          clear hmf hdb
          go_wp2_with fail
          refine Calls.mono HM2.out ?_
          rintro e w5 ⟨k, b, rfl, hR, hk, hb5⟩
          have cbZ := cb4.next hb5
          have blZ := bl4.trans (hb5.mono bl4.size)
          have hLZ := hL4.later hb5
          have hTZ := hT4.later hb5
          clear o0 o1 o2 o3 o4 cb4 bl4 hL4 hT4 hb5 em HM2
          cases b with
          | false =>
            have HFR : Hid _ := A3.out m k HMM.out (.inr hR)
            clear hR
            go_wp2_with fail
            have hl2 := later_any T (86400 - G) T0 T1 (by omega) (by omega)
            by_cases hf : T + (86400 - G) < 9223372036854775808
            · rw [if_pos hf] at hl2
              have HLN : Hid _ := A4.out HFR.out hf
              have HL2 : Hid _ := hl2
              clear hl2
              refine (HL2.out _).mono ?_
              rintro e w6 ⟨rfl, rfl⟩
              go_wp2_with fail
              exact ⟨⟨_, i + 1, rfl, by go_num, HLN.out, cbZ, hLZ, hTZ, blZ⟩, by simp [intOf]; omega⟩
            · rw [if_neg hf] at hl2
              have HLN : Hid _ := A5.out HFR.out (by omega)
              have HL2 : Hid _ := hl2
              clear hl2
              refine (HL2.out _).mono ?_
              rintro e w6 ⟨rfl, rfl⟩
              go_wp2_with fail
              go_ret2
              exact FIN.out _ _ _ HLN.out blZ
          | true =>
            obtain ⟨r1, r2, _, _⟩ := hR.yes rfl
            have hmm := HMM.out
            have hl2 := later_any T ((k : Int) * 60 - G) T0 T1 (by omega) (by omega)
            by_cases hf : T + ((k : Int) * 60 - G) < 9223372036854775808
            · rw [if_pos hf] at hl2
              have HLN : Hid _ := A1.out m k HMM.out HDB.out hR hf
              have HL2 : Hid _ := hl2
              clear hl2 hR hmm
              go_wp2_with fail
              refine (HL2.out _).mono ?_
              rintro e w6 ⟨rfl, rfl⟩
              go_wp2_with fail
              go_ret2
              exact FIN.out _ _ _ HLN.out blZ
            · rw [if_neg hf] at hl2
              have HLN : Hid _ := A2.out m k HMM.out HDB.out hR (by omega)
              have HL2 : Hid _ := hl2
              clear hl2 hR hmm
              go_wp2_with fail
              refine (HL2.out _).mono ?_
              rintro e w6 ⟨rfl, rfl⟩
              go_wp2_with fail
              go_ret2
              exact FIN.out _ _ _ HLN.out blZ
      · obtain rfl : i = 10228 := by omega
        have HD : Hid _ := hlk.done
        clear hlk
        go_wp2_with fail
        go_ret2
        exact FIN.out _ _ _ HD.out bl
end Go.Proofs.YtddinknnaakmmaaDoor

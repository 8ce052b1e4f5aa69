/- The statement CronBack: the walk of her Go text, out of the contracts of package cron. -/
import Derived.Test.YtddinknnaakmmaaDoorCroJ
import Derived.ProofKit
import Derived.OpenShut
namespace Go.Proofs.YtddinknnaakmmaaDoor
open Go.RowKit Go.Deep

theorem eqCron (c : Cr) (w : World) : (Op.equalIn 10000 25 (cronV c) (cronV c)).run Tryd.prog w = .ok true w := by
  have t3 := Tryd.underlying23
  have q3 := Tryd.isAgg23
  have z3 := Tryd.sizeOf23
  rw [show (10000 : Nat) = 9999 + 1 from rfl, Op.equalIn]
  simp only [Sem.run_bind, run_underlying Tryd.underlying25, Result.andThen_ok]
  go_simp
theorem back_readV (c : Cr) (fc : c.Fits) (h : cfB c = true) : readV (textL c.get) = .tuple #[cronV c, .int .i64 0, .int .i64 0] := by
  have hs := cfB_set fc h
  have hl := textL_len c.get hs
  unfold readV
  rw [if_neg (by omega), text_reads c.get hs]
  rfl
theorem crOf_get (ss : List Nat) (j : Nat) (h : j < 5) : (crOf ss).get j = ss.getD j 0 := by
  rcases (show j = 0 ∨ j = 1 ∨ j = 2 ∨ j = 3 ∨ j = 4 by omega) with rfl | rfl | rfl | rfl | rfl <;> rfl
theorem read_formed {l : List UInt8} {ss : List Nat} (h : readS l = .ok ss) : (crOf ss).Fits ∧ cfB (crOf ss) = true := by
  have hs := (readS_in h).2
  refine ⟨⟨(hs 0 (by omega)).lt, (hs 1 (by omega)).lt, (hs 2 (by omega)).lt, (hs 3 (by omega)).lt, (hs 4 (by omega)).lt⟩, set_cfB fun i hi => ?_⟩
  rw [crOf_get ss i hi]
  exact hs i hi
/-- What Read answers of a text: that it is none, at a place within it, or a schedule that is formed. -/
theorem readV_cases (l : List UInt8) : (∃ p e : Nat, readV l = .tuple #[cronV ⟨0, 0, 0, 0, 0⟩, .int .i64 (p : Nat), .int .i64 (e : Nat)] ∧ p ≤ l.length ∧ e ≠ 0) ∨ (∃ d : Cr, readV l = .tuple #[cronV d, .int .i64 0, .int .i64 0] ∧ d.Fits ∧ cfB d = true) := by
  unfold readV
  by_cases h : 256 < l.length
  · rw [if_pos h]; exact .inl ⟨0, 2, rfl, Nat.zero_le _, by decide⟩
  · rw [if_neg h]
    cases hr : readS l with
    | error p => exact .inl ⟨p, 26, rfl, readS_error hr, by decide⟩
    | ok ss => exact .inr ⟨crOf ss, rfl, read_formed hr⟩
set_option maxRecDepth 20000 in
set_option maxHeartbeats 4000000 in
theorem cronBack_walk (c : Cr) (s : ByteArray) (fc : c.Fits) (_ : s.size ≤ maxLen) (w : World) (hF : FldAt w) (hT : TzAt w) :
    Calls Tryd.prog 7 #[cronV c, .string s] w fun e w' => e = .returned (.bool true) ∧ Below w.heap.size w w' := by
  obtain ⟨cb, bl⟩ := one_box w 25 (u5 c.a c.b c.c c.d c.e)
  replace hF := hF.later bl
  replace hT := hT.later bl
  have hTx := fun wx h1 h2 => Text_any c fc wx h1 h2
  have hFm := fun wx h1 => Formed_any c fc wx h1
  have hRs := fun wx h1 => Read_any s s.data.toList rfl wx h1
  have hsl : s.data.toList.length = s.size := rfl
  have hq := fun wx => eqCron c wx
  have hrc := readV_cases s.data.toList
  have hbk := back_readV c fc
  have hRb := fun wx h1 => Read_any ⟨(textL c.get).toArray⟩ (textL c.get) rfl wx h1
  unfold TextPost at hTx
  unfold FormedPost at hFm
  unfold ReadPost at hRs hRb
  unfold textV at hTx
  rw [hsl] at hrc
  have HTX : Hid _ := hTx
  have HFM : Hid _ := hFm
  have HRS : Hid _ := hRs
  have HRB : Hid _ := hRb
  have HRC : Hid _ := hrc
  have HBK : Hid _ := hbk
  clear hTx hFm hRs hRb hrc hbk hsl
  obtain ⟨o0, o1, o2, o3, o4, _⟩ := cb.five
  go_enter Tryd.func7, Tryd.ntmps7
  go_wp2_with fail
  refine (awake_any _ hF hT).mono ?_
  rintro e w1 ⟨rfl, hb⟩
  replace hF := hF.later hb
  replace hT := hT.later hb
  replace cb := cb.next hb
  replace bl := bl.trans (hb.mono bl.size)
  clear hb o0 o1 o2 o3 o4
  obtain ⟨o0, o1, o2, o3, o4, _⟩ := cb.five
  go_wp2_with fail
  refine (HTX.out _ hF hT).mono ?_
  rintro e w2 ⟨rfl, hb⟩
  replace hF := hF.later hb
  replace hT := hT.later hb
  replace cb := cb.next hb
  replace bl := bl.trans (hb.mono bl.size)
  clear hb o0 o1 o2 o3 o4
  obtain ⟨o0, o1, o2, o3, o4, _⟩ := cb.five
  cases hc : cfB c with
  | false =>
    have HC : Hid _ := hc
    clear hc
    rw [if_neg (by decide)]
    go_wp2_with fail
    refine (HFM.out _ hF).mono ?_
    rintro e w3 ⟨rfl, hb⟩
    replace hF := hF.later hb
    replace hT := hT.later hb
    replace bl := bl.trans (hb.mono bl.size)
    clear hb o0 o1 o2 o3 o4 cb hq
    rw [HC.out]
    go_wp2_with fail
    refine (HRS.out _ hF).mono ?_
    rintro e w5 ⟨rfl, hb⟩
    replace hF := hF.later hb
    replace hT := hT.later hb
    replace bl := bl.trans (hb.mono bl.size)
    clear hb
    rcases HRC.out with ⟨p, en, hv, hp, hen⟩ | ⟨d, hv, fd, hd⟩
    · rw [hv]
      obtain ⟨db, l5⟩ := one_box w5 25 (u5 0 0 0 0 0)
      replace bl := bl.trans (l5.mono bl.size)
      obtain ⟨p0, p1, p2, p3, p4, _⟩ := db.five
      have hz := fun wx => eqCron ⟨0, 0, 0, 0, 0⟩ wx
      have hen' : ((en : Int) != 0) = true := bne_iff_ne.2 (by omega)
      have hp' : (p : Int) ≤ (s.size : Int) := by omega
      clear hv hen hp
      go_wp2_with fail
      go_ret
      exact ⟨rfl, bl⟩
    · rw [hv]
      obtain ⟨db, l5⟩ := one_box w5 25 (u5 d.a d.b d.c d.d d.e)
      replace hF := hF.later l5
      replace hT := hT.later l5
      replace bl := bl.trans (l5.mono bl.size)
      obtain ⟨p0, p1, p2, p3, p4, _⟩ := db.five
      have hTx := fun wx h1 h2 => Text_any d fd wx h1 h2
      have hRb := fun wx h1 => Read_any ⟨(textL d.get).toArray⟩ (textL d.get) rfl wx h1
      unfold TextPost textV at hTx
      rw [if_pos hd] at hTx
      unfold ReadPost at hRb
      rw [back_readV d fd hd] at hRb
      have hqd := fun wx => eqCron d wx
      have HTD : Hid _ := hTx
      have HRD : Hid _ := hRb
      clear hTx hRb hv hd HTX HFM HRS HRB HRC HBK
      generalize textL d.get = td at *
      go_wp2_with fail
      refine (HTD.out _ hF hT).mono ?_
      rintro e w6 ⟨rfl, hb⟩
      replace hF := hF.later hb
      replace db := db.next hb
      replace bl := bl.trans (hb.mono bl.size)
      clear hb p0 p1 p2 p3 p4
      go_wp2_with fail
      refine (HRD.out _ hF).mono ?_
      rintro e w7 ⟨rfl, hb⟩
      replace db := db.next hb
      replace bl := bl.trans (hb.mono bl.size)
      clear hb
      obtain ⟨eb, l7⟩ := one_box w7 25 (u5 d.a d.b d.c d.d d.e)
      replace db := db.next l7
      replace bl := bl.trans (l7.mono bl.size)
      obtain ⟨p0, p1, p2, p3, p4, _⟩ := db.five
      obtain ⟨q0, q1, q2, q3, q4, _⟩ := eb.five
      go_wp2_with fail
      go_ret
      exact ⟨rfl, bl⟩
  | true =>
    have HC : Hid _ := hc
    clear hc
    rw [if_pos rfl]
    go_wp2_with fail
    refine (HFM.out _ hF).mono ?_
    rintro e w3 ⟨rfl, hb⟩
    replace hF := hF.later hb
    replace hT := hT.later hb
    replace cb := cb.next hb
    replace bl := bl.trans (hb.mono bl.size)
    clear hb o0 o1 o2 o3 o4
    rw [HC.out]
    have hv := HBK.out HC.out
    have HV : Hid _ := hv
    clear hv
    go_wp2_with fail
    refine (HRB.out _ hF).mono ?_
    rintro e w4 ⟨rfl, hb⟩
    replace hF := hF.later hb
    replace hT := hT.later hb
    replace cb := cb.next hb
    replace bl := bl.trans (hb.mono bl.size)
    clear hb
    rw [HV.out]
    obtain ⟨xb, l4⟩ := one_box w4 25 (u5 c.a c.b c.c c.d c.e)
    replace hF := hF.later l4
    replace hT := hT.later l4
    replace cb := cb.next l4
    replace bl := bl.trans (l4.mono bl.size)
    obtain ⟨o0, o1, o2, o3, o4, _⟩ := cb.five
    obtain ⟨q0, q1, q2, q3, q4, _⟩ := xb.five
    go_wp2_with fail
    refine (HRS.out _ hF).mono ?_
    rintro e w5 ⟨rfl, hb⟩
    replace hF := hF.later hb
    replace hT := hT.later hb
    replace bl := bl.trans (hb.mono bl.size)
    clear hb
    rcases HRC.out with ⟨p, en, hv, hp, hen⟩ | ⟨d, hv, fd, hd⟩
    · rw [hv]
      obtain ⟨db, l5⟩ := one_box w5 25 (u5 0 0 0 0 0)
      replace bl := bl.trans (l5.mono bl.size)
      obtain ⟨p0, p1, p2, p3, p4, _⟩ := db.five
      have hz := fun wx => eqCron ⟨0, 0, 0, 0, 0⟩ wx
      have hen' : ((en : Int) != 0) = true := bne_iff_ne.2 (by omega)
      have hp' : (p : Int) ≤ (s.size : Int) := by omega
      clear hv hen hp
      go_wp2_with fail
      go_ret
      exact ⟨rfl, bl⟩
    · rw [hv]
      obtain ⟨db, l5⟩ := one_box w5 25 (u5 d.a d.b d.c d.d d.e)
      replace hF := hF.later l5
      replace hT := hT.later l5
      replace bl := bl.trans (l5.mono bl.size)
      obtain ⟨p0, p1, p2, p3, p4, _⟩ := db.five
      have hTx := fun wx h1 h2 => Text_any d fd wx h1 h2
      have hRb := fun wx h1 => Read_any ⟨(textL d.get).toArray⟩ (textL d.get) rfl wx h1
      unfold TextPost textV at hTx
      rw [if_pos hd] at hTx
      unfold ReadPost at hRb
      rw [back_readV d fd hd] at hRb
      have hqd := fun wx => eqCron d wx
      have HTD : Hid _ := hTx
      have HRD : Hid _ := hRb
      clear hTx hRb hv hd HTX HFM HRS HRB HRC HBK
      generalize textL d.get = td at *
      go_wp2_with fail
      refine (HTD.out _ hF hT).mono ?_
      rintro e w6 ⟨rfl, hb⟩
      replace hF := hF.later hb
      replace db := db.next hb
      replace bl := bl.trans (hb.mono bl.size)
      clear hb p0 p1 p2 p3 p4
      go_wp2_with fail
      refine (HRD.out _ hF).mono ?_
      rintro e w7 ⟨rfl, hb⟩
      replace db := db.next hb
      replace bl := bl.trans (hb.mono bl.size)
      clear hb
      obtain ⟨eb, l7⟩ := one_box w7 25 (u5 d.a d.b d.c d.d d.e)
      replace db := db.next l7
      replace bl := bl.trans (l7.mono bl.size)
      obtain ⟨p0, p1, p2, p3, p4, _⟩ := db.five
      obtain ⟨q0, q1, q2, q3, q4, _⟩ := eb.five
      go_wp2_with fail
      go_ret
      exact ⟨rfl, bl⟩
end Go.Proofs.YtddinknnaakmmaaDoor

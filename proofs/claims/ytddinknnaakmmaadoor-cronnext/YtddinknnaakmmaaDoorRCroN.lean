/- The document's answer: Next, day by day, minute by minute. -/
import Derived.Test.YtddinknnaakmmaaDoorCroZ
import Derived.Test.YtddinknnaakmmaaDoorRCroA
import Derived.Deep.CutRange
namespace Go.Proofs.YtddinknnaakmmaaDoor
open Go.RowKit Go.Deep

/-- How far the document's Next has looked. -/
structure Seen (c : Cr) (t : Int) (i : Nat) (T : Int) : Prop where
  le : t ≤ T
  day : T / 86400 = t / 86400 + i
  free : Free c t T
  at0 : i = 0 → T = t
  at1 : 0 < i → T % 86400 = 0
/-- The first minute of the day that counts. -/
theorem Seen.start {c : Cr} {t : Int} {i : Nat} {T : Int} (h : Seen c t i T) : ∃ m0 : Nat, (m0 : Int) = (T % 86400 + 59) / 60 ∧ (i = 0 → ∀ m : Nat, 60 * (m : Int) < t % 86400 ↔ m < m0) ∧ (0 < i → m0 = 0) := by
  refine ⟨((T % 86400 + 59) / 60).toNat, by omega, fun e m => ?_, fun e => ?_⟩
  · have := h.at0 e; subst this; omega
  · have := h.at1 e; omega
theorem Seen.hit {c : Cr} {t : Int} {i : Nat} {T : Int} {d : Civ} {m0 m : Nat} (h : Seen c t i T) (hi : i < 10228) (ha : Date (t / 86400 + i) d) (hd : dayB c d = true) (hm : (m0 : Int) = (T % 86400 + 59) / 60) (hr : MinR c m0 m true) (hf : (t / 86400 + i) * 86400 + 60 * (m : Int) < 9223372036854775808) :
    NextR c t ((t / 86400 + i) * 86400 + 60 * (m : Int)) true := by
  obtain ⟨h1, h2, h3, h4⟩ := hit_day (t := T) ha h.day hm hd hr
  have := h.le
  exact nextR_hit (by omega) (by omega) hf (by omega) h3 (h.free.trans h4)
theorem Seen.far {c : Cr} {t : Int} {i : Nat} {T : Int} {d : Civ} {m0 m : Nat} (h : Seen c t i T) (ha : Date (t / 86400 + i) d) (hd : dayB c d = true) (hm : (m0 : Int) = (T % 86400 + 59) / 60) (hr : MinR c m0 m true) (hf : 9223372036854775808 ≤ (t / 86400 + i) * 86400 + 60 * (m : Int)) :
    NextR c t 0 false := by
  obtain ⟨h1, h2, h3, h4⟩ := hit_day (t := T) ha h.day hm hd hr
  exact nextR_far hf (h.free.trans h4)
theorem Seen.next {c : Cr} {t : Int} {i : Nat} {T : Int} {d : Civ} {m0 : Nat} (h : Seen c t i T) (ha : Date (t / 86400 + i) d) (hm : (m0 : Int) = (T % 86400 + 59) / 60) (hd : dayB c d = false ∨ ∀ j, m0 ≤ j → j < 1440 → minB c j = false) :
    Seen c t (i + 1) ((t / 86400 + i + 1) * 86400) := by
  refine ⟨by have := h.le; have := h.day; omega, by omega, h.free.trans ?_, (fun e => by omega), fun _ => by omega⟩
  rcases hd with q | q
  · exact free_bare ha h.day q
  · exact free_late ha h.day (Int.le_of_eq hm) q
theorem Seen.done {c : Cr} {t : Int} {T : Int} (h : Seen c t 10228 T) : NextR c t 0 false := by
  have hd := h.day
  exact nextR_none fun m k1 k2 k3 => h.free m k1 (by omega) k3
/-- The minutes from m0 on below m are not there. -/
def NoneUp (c : Cr) (m0 m : Nat) : Prop := ∀ j, m0 ≤ j → j < m → minB c j = false
theorem NoneUp.next {c : Cr} {m0 m : Nat} (h : NoneUp c m0 m) (k : m < m0 ∨ minB c m = false) : NoneUp c m0 (m + 1) := fun j h1 h2 => by
  by_cases e : j = m
  · subst e
    rcases k with k | k
    · omega
    · exact k
  · exact h j h1 (by omega)
theorem NoneUp.hit {c : Cr} {m0 m : Nat} (h : NoneUp c m0 m) (hm : m < 1440) (h0 : m0 ≤ m) (k : minB c m = true) : MinR c m0 m true :=
  ⟨fun _ => ⟨h0, hm, k, h⟩, fun e => by cases e⟩
set_option maxRecDepth 200000 in
set_option maxHeartbeats 16000000 in
theorem rNext_any (c : Cr) (fc : c.Fits) (t : Int) (t0 : -9223372036854775808 ≤ t) (t1 : t < 9223372036854775808) (w : World) :
    Calls Tryd.prog 19 #[cronV c, .int .i64 t] w (NextPost c t w) := by
  obtain ⟨cb, l0⟩ := one_box w 25 (u5 c.a c.b c.c c.d c.e)
  have hfm := fun wx => rFormed_any c fc wx
  obtain ⟨o0, o1, o2, o3, o4, _⟩ := cb.five
  have HF : Hid _ := hfm
  clear hfm
  cases hc : cfB c with
  | false =>
    have HC : Hid _ := hc
    clear hc
    go_enter Tryd.func19, Tryd.ntmps19
    go_wp2_with fail
    refine (HF.out _).mono ?_
    rintro e w1 ⟨rfl, hb1⟩
    rw [HC.out]
    go_wp2_with fail
    go_ret2
    exact ⟨0, false, rfl, (fun h => by rw [HC.out] at h; cases h), (fun _ => ⟨rfl, rfl⟩), l0.trans (hb1.mono l0.size)⟩
  | true =>
    have fin : ∀ (n : Int) (b : Bool) (w' : World), NextR c t n b → Below w.heap.size w w' → NextPost c t w (.returned (.tuple #[.int .i64 n, .bool b])) w' := fun n b w' h1 h2 =>
      ⟨n, b, rfl, (fun _ => h1), (fun h => by rw [hc] at h; cases h), h2⟩
    have HC : Hid _ := hc
    have FIN : Hid _ := fin
    have hov := fun wx => Over_any t 86400 t0 t1 (by omega) (by omega) wx
    have hot := fun wx => Over_any 9223372036854775807 86400 (by omega) (by omega) (by omega) (by omega) wx
    rw [show (9223372036854775807 : Int) / 86400 = 106751991167300 from rfl, show (9223372036854775807 : Int) % 86400 = 55807 from rfl] at hot
    have hO := fun wx => rOf_any t t0 t1 wx
    have hsn : Seen c t 0 t := ⟨by omega, by omega, Free.nil _ _, (fun _ => rfl), fun h => by omega⟩
    have HOV : Hid _ := hov
    have HOT : Hid _ := hot
    have HO : Hid _ := hO
    have HSN : Hid _ := hsn
    clear hc fin hov hot hO hsn
    go_enter Tryd.func19, Tryd.ntmps19
    go_wp2_with fail
    refine (HF.out _).mono ?_
    rintro e w1 ⟨rfl, hb1⟩
    rw [HC.out]
    have bl1 := l0.trans (hb1.mono l0.size)
    have cb1 := cb.next hb1
    clear o0 o1 o2 o3 o4 hb1 cb l0 HF
    go_wp2_with fail
    refine (HOV.out _).mono ?_
    rintro e w2 ⟨rfl, hb2⟩
    have bl2 := bl1.trans (hb2.mono bl1.size)
    have cb2 := cb1.next hb2
    clear hb2 cb1 bl1 HOV
    go_wp2_with fail
    refine (HO.out _).mono ?_
    rintro e w3 ⟨d, rfl, hat, y0, y1, hb3⟩
    have bl3 := bl2.trans (hb3.mono bl2.size)
    have cb3 := cb2.next hb3
    obtain ⟨xb3, l3⟩ := one_box w3 60 (civCells d)
    have bl4 := bl3.trans (l3.mono bl3.size)
    have cb4 := cb3.next l3
    have hne : w.heap.size ≠ w3.heap.size := by have := cb3.lt; omega
    have hge : w.heap.size ≤ w3.heap.size := bl3.size
    have hdt := hat.date
    have HDT : Hid _ := hdt
    clear hb3 cb2 cb3 bl2 bl3 l3 HO hat hdt
    have D0 : -200000000000000 ≤ t / 86400 := by omega
    have D1 : t / 86400 ≤ 200000000000000 := by omega
    have R0 : 0 ≤ t % 86400 := by omega
    have R1 : t % 86400 < 86400 := by omega
    have HDR : Hid (t = t / 86400 * 86400 + t % 86400) := by show _ = _; omega
    go_wp2_with fail
    go_loopw [9] (fun p wr => ∃ (i : Nat) (T : Int) (d : Civ), p = .int .i64 i ∧ i ≤ 10228 ∧ Seen c t i T ∧ Date (t / 86400 + i) d ∧ -1000000000000 < d.year ∧ d.year < 1000000000000 + i ∧ Box wr w.heap.size (u5 c.a c.b c.c c.d c.e) ∧ Box wr w3.heap.size (civCells d) ∧ Below w.heap.size w wr) (fun p _ => (10228 - intOf p).toNat)
    case atStart => exact ⟨0, t, d, rfl, by omega, HSN.out, by simpa using HDT.out, y0, by omega, cb4, xb3, bl4⟩
    case round =>
      obtain ⟨i, T, d, rfl, hi, hsn, hdt, y0, y1, cb, xb, bl⟩ := hrel
      clear cb4 xb3 bl4 HSN HDT
      by_cases hlt : i < 10228
      · have k1 : (i : Int) < 10228 := by omega
        obtain ⟨m0, hm0, hst0, hst1⟩ := hsn.start
        have d0 := hdt.d0; have d1 := hdt.day31; have mo0 := hdt.m0; have mo1 := hdt.m1; have wk := hdt.wk
        have wk0 : 0 ≤ d.week := by omega
        have wk1 : d.week ≤ 6 := by omega
        have g1 := fun wx => Has_int c.c d.day (by omega) (by omega) wx
        have g2 := fun wx => Has_int c.d d.month (by omega) (by omega) wx
        have g3 := fun wx => Has_int c.e d.week (by omega) (by omega) wx
        have hdB : dayB c d = (c.c.testBit d.day.toNat && c.d.testBit d.month.toNat && c.e.testBit d.week.toNat) := rfl
        have hnext := fun hd => hsn.next hdt hm0 hd
        have hhit := fun hd m hr hf => hsn.hit (m := m) hlt hdt hd hm0 hr hf
        have hfar := fun hd m hr hf => hsn.far (m := m) hdt hd hm0 hr hf
        have hdn := hdt.next
        rw [show t / 86400 + (i : Int) + 1 = t / 86400 + ((i + 1 : Nat) : Int) by omega] at hdn
        obtain ⟨wk', hwk⟩ : ∃ x : Int, x = (d.week + 1) % 7 := ⟨_, rfl⟩
        have e7 : (d.week + 1).tmod 7 = wk' := by rw [Int.tmod_eq_emod_of_nonneg (by omega), hwk]
        rw [← hwk] at hdn
        have hda := fun wx n => Calls.quiet_of_same (n := n) ((rDays_any d.year d.month (World.drewN wx n)).mono fun _ _ k => ⟨k.1, k.2.symm⟩)
        have hmd := mdays_pos d.year d.month mo0 mo1
        have ST0 : Hid _ := hst0
        have ST1 : Hid _ := hst1
        have G1 : Hid _ := g1
        have G2 : Hid _ := g2
        have G3 : Hid _ := g3
        have DB : Hid _ := hdB
        have NX : Hid _ := hnext
        have HIT : Hid _ := hhit
        have FAR : Hid _ := hfar
        have DN : Hid _ := hdn
        have DA : Hid _ := hda
        obtain ⟨md0, md1⟩ := hmd
        obtain ⟨o0, o1, o2, o3, o4, _⟩ := cb.five
        obtain ⟨x0, x1, x2, x3, x4, x5, x6, z0, z1, z2, z3, z4, z5, z6⟩ := xb.seven
        clear hst0 hst1 g1 g2 g3 hdB hnext hhit hfar hdn hda wk hdt hsn hwk hm0
        obtain ⟨y, mo, da, hh, mi, ss, wk⟩ := d
        simp only at *
        generalize mdays y mo = MD at *
        have HB3 : Hid _ := DB.out
        generalize dayB c ⟨y, mo, da, hh, mi, ss, wk⟩ = db at *
        generalize c.c.testBit da.toNat = b1 at *
        generalize c.d.testBit mo.toNat = b2 at *
        generalize c.e.testBit wk.toNat = b3 at *
        clear DB
        go_upto_region 8 with fail
        go_cut [45] from 23 to 134 (fun s45 wc => s45 = .bool db ∧ wr = wc)
        case first =>
          clear NX HIT FAR DN DA
          cases b1 with
          | false =>
            go_wp2_with fail
            refine (G1.out _).mono ?_
            rintro e w5 ⟨rfl, rfl⟩
            go_wp2_with fail
            go_meet
            exact ⟨by rw [HB3.out]; rfl, rfl⟩
          | true =>
            cases b2 with
            | false =>
              go_wp2_with fail
              refine (G1.out _).mono ?_
              rintro e w5 ⟨rfl, rfl⟩
              go_wp2_with fail
              refine (G2.out _).mono ?_
              rintro e w5 ⟨rfl, rfl⟩
              go_wp2_with fail
              go_meet
              exact ⟨by rw [HB3.out]; rfl, rfl⟩
            | true =>
              go_wp2_with fail
              refine (G1.out _).mono ?_
              rintro e w5 ⟨rfl, rfl⟩
              go_wp2_with fail
              refine (G2.out _).mono ?_
              rintro e w5 ⟨rfl, rfl⟩
              go_wp2_with fail
              refine (G3.out _).mono ?_
              rintro e w5 ⟨rfl, rfl⟩
              go_wp2_with fail
              go_meet
              exact ⟨by rw [HB3.out]; rfl, rfl⟩
        case rest =>
          obtain ⟨rfl, rfl⟩ := hcut
          clear G1 G2 G3 HB3
          go_upto_if 45 with fail
          go_cut [] from 23 to 134 (fun wc => Seen c t (i + 1) ((t / 86400 + i + 1) * 86400) ∧ wr = wc)
          case rest =>
            obtain ⟨hnn, rfl⟩ := hcut
            have NN : Hid _ := hnn
            clear hnn NX HIT FAR
            go_wp2_with fail
            have xb6 := xb.set 6 (by simp) (.int .i64 wk')
            have xb2 : Box _ w3.heap.size [.int .i64 y, .int .i64 mo, .int .i64 (da + 1), .int .i64 hh, .int .i64 mi, .int .i64 ss, .int .i64 wk'] := xb6.set 2 (by simp) (.int .i64 (da + 1))
            have cb2 := (cb.other (j := 6) (v := .int .i64 wk') hne).other (j := 2) (v := .int .i64 (da + 1)) hne
            have bl2 := (bl.setCell (p := ⟨w3.heap.size, 6, none⟩) hge (.int .i64 wk')).setCell (p := ⟨w3.heap.size, 2, none⟩) hge (.int .i64 (da + 1))
            clear x0 x1 x2 x3 x4 x5 x6 z0 z1 z2 z3 z4 z5 z6 o0 o1 o2 o3 o4 xb6 xb cb bl
            generalize (wr.setCell ⟨w3.heap.size, 6, none⟩ (.int .i64 wk')).setCell ⟨w3.heap.size, 2, none⟩ (.int .i64 (da + 1)) = W at *
            obtain ⟨x0, x1, x2, x3, x4, x5, x6, _⟩ := xb2.seven
            go_quiet (exact DA.out _ _)
            have xb3 := xb2.drewN nq
            have cb3 := cb2.drewN nq
            have bl3 := below_drewN bl2 nq
            clear x0 x1 x2 x3 x4 x5 x6 xb2 cb2 bl2
            generalize W.drewN nq = V at *
            obtain ⟨x0, x1, x2, x3, x4, x5, x6, z0, z1, z2, z3, z4, z5, z6⟩ := xb3.seven
            by_cases hq : da + 1 ≤ MD
            · have DN2 := DN.out
              rw [if_pos hq] at DN2
              have DD : Hid _ := DN2
              have hq2 : ¬ MD < da + 1 := by omega
              clear DN2
              go_wp2_with fail
              refine ⟨⟨i + 1, (t / 86400 + i + 1) * 86400, ⟨y, mo, da + 1, hh, mi, ss, wk'⟩, ?g1, ?g2, NN.out, DD.out, ?g3, ?g4, cb3, xb3, bl3⟩, ?g5⟩
              case g1 => go_num
              case g2 => omega
              case g3 => simp only; omega
              case g4 => simp only; omega
              case g5 => simp [intOf]; omega
            · have hq2 : MD < da + 1 := by omega
              have DN2 := DN.out
              rw [if_neg hq] at DN2
              have xb2b := xb3.set 2 (by simp) (.int .i64 1)
              have xb1 : Box _ w3.heap.size [.int .i64 y, .int .i64 (mo + 1), .int .i64 1, .int .i64 hh, .int .i64 mi, .int .i64 ss, .int .i64 wk'] := xb2b.set 1 (by simp) (.int .i64 (mo + 1))
              by_cases hr : mo + 1 ≤ 12
              · rw [if_pos hr] at DN2
                have DD : Hid _ := DN2
                have hr2 : ¬ 12 < mo + 1 := by omega
                clear DN2
                go_wp2_with fail
                refine ⟨⟨i + 1, (t / 86400 + i + 1) * 86400, ⟨y, mo + 1, 1, hh, mi, ss, wk'⟩, ?g1, ?g2, NN.out, DD.out, ?g3, ?g4, (cb3.other hne).other hne, xb1, (bl3.setCell hge _).setCell hge _⟩, ?g5⟩
                case g1 => go_num
                case g2 => omega
                case g3 => simp only; omega
                case g4 => simp only; omega
                case g5 => simp [intOf]; omega
              · rw [if_neg hr] at DN2
                have DD : Hid _ := DN2
                have hr2 : 12 < mo + 1 := by omega
                have xb1b := xb1.set 1 (by simp) (.int .i64 1)
                have xb0 : Box _ w3.heap.size [.int .i64 (y + 1), .int .i64 1, .int .i64 1, .int .i64 hh, .int .i64 mi, .int .i64 ss, .int .i64 wk'] := xb1b.set 0 (by simp) (.int .i64 (y + 1))
                clear DN2
                go_wp2_with fail
                refine ⟨⟨i + 1, (t / 86400 + i + 1) * 86400, ⟨y + 1, 1, 1, hh, mi, ss, wk'⟩, ?g1, ?g2, NN.out, DD.out, ?g3, ?g4, (((cb3.other hne).other hne).other hne).other hne, xb0, (((bl3.setCell hge _).setCell hge _).setCell hge _).setCell hge _⟩, ?g5⟩
                case g1 => go_num
                case g2 => omega
                case g3 => simp only; omega
                case g4 => simp only; omega
                case g5 => simp [intOf]; omega
          case first =>
            clear DN DA
            cases db with
            | false =>
              have NN : Hid _ := NX.out (.inl rfl)
              clear NX HIT FAR
              go_wp2_with fail
              go_meet
              exact ⟨NN.out, rfl⟩
            | true =>
              go_wp2_with fail
              generalize t / 86400 = F at *
              generalize t % 86400 = R at *
              go_loopw [10] (fun p wx => ∃ m : Nat, p = .int .i64 m ∧ m ≤ 1440 ∧ NoneUp c m0 m ∧ wr = wx) (fun p _ => (1440 - intOf p).toNat)
              case atStart => exact ⟨0, rfl, by omega, (fun j h1 h2 => absurd h2 (by omega)), rfl⟩
              case round =>
                obtain ⟨m, rfl, hm, hup, rfl⟩ := hrel
                by_cases hm14 : m < 1440
                · have k2 : (m : Int) < 1440 := by omega
                  have e1 : (m : Int).tdiv 60 = ((m / 60 : Nat) : Int) := by rw [Int.tdiv_eq_ediv_of_nonneg (by omega)]; rfl
                  have e2 : (m : Int).tmod 60 = ((m % 60 : Nat) : Int) := by rw [Int.tmod_eq_emod_of_nonneg (by omega)]; rfl
                  have gh := fun wx => Has_nat c.b (m / 60) (by omega) wx
                  have gm := fun wx => Has_nat c.a (m % 60) (by omega) wx
                  have hmb : minB c m = (c.b.testBit (m / 60) && c.a.testBit (m % 60)) := rfl
                  have hQ : m / 60 < 24 := by omega
                  have hR60 : m % 60 < 60 := by omega
                  generalize m / 60 = mq at *
                  generalize m % 60 = mr at *
                  generalize c.b.testBit mq = bh at *
                  generalize c.a.testBit mr = bm at *
                  have GH : Hid _ := gh
                  have GM : Hid _ := gm
                  have HMB : Hid _ := hmb
                  clear gh gm hmb NX
                  by_cases hi0 : i = 0
                  · have s0 := ST0.out hi0 m
                    have k3 : ((i : Int) == 0) = true := beq_iff_eq.2 (by omega)
                    by_cases hearly : m < m0
                    · have k4 : 60 * (m : Int) < R := s0.2 hearly
                      have HN : Hid _ := hup.next (.inl hearly)
                      have HI0 : Hid _ := hi0
                      clear hup HIT FAR s0 hi0 HMB
                      go_wp2_with fail
                      exact ⟨⟨m + 1, by go_num, by omega, HN.out, trivial⟩, by simp [intOf]; omega⟩
                    · have k4 : ¬ 60 * (m : Int) < R := fun k => hearly (s0.1 k)
                      have HI0 : Hid _ := hi0
                      clear s0 hi0
                      cases bh with
                      | false =>
                        have HN : Hid _ := hup.next (.inr (by rw [HMB.out]; rfl))
                        clear hup HIT FAR HMB
                        go_wp2_with fail
                        refine (GH.out _).mono ?_
                        rintro e w5 ⟨rfl, rfl⟩
                        go_wp2_with fail
                        exact ⟨⟨m + 1, by go_num, by omega, HN.out, trivial⟩, by simp [intOf]; omega⟩
                      | true =>
                        cases bm with
                        | false =>
                          have HN : Hid _ := hup.next (.inr (by rw [HMB.out]; rfl))
                          clear hup HIT FAR HMB
                          go_wp2_with fail
                          refine (GH.out _).mono ?_
                          rintro e w5 ⟨rfl, rfl⟩
                          go_wp2_with fail
                          refine (GM.out _).mono ?_
                          rintro e w5 ⟨rfl, rfl⟩
                          go_wp2_with fail
                          exact ⟨⟨m + 1, by go_num, by omega, HN.out, trivial⟩, by simp [intOf]; omega⟩
                        | true =>
                          have HMR : Hid _ := hup.hit hm14 (by omega) (by rw [HMB.out]; rfl)
                          clear hup HMB
                          go_wp2_with fail
                          refine (GH.out _).mono ?_
                          rintro e w5 ⟨rfl, rfl⟩
                          go_wp2_with fail
                          refine (GM.out _).mono ?_
                          rintro e w5 ⟨rfl, rfl⟩
                          rcases (show F + (i : Int) < 106751991167300 ∨ (F + (i : Int) = 106751991167300 ∧ 60 * (m : Int) ≤ 55807) ∨ (F + (i : Int) = 106751991167300 ∧ 55807 < 60 * (m : Int)) ∨ 106751991167300 < F + (i : Int) by omega) with hq4 | hq4 | hq4 | hq4
                          · have q1 : ¬ 106751991167300 < F + (i : Int) := by omega
                            have q2 : (F + (i : Int) == 106751991167300) = false := beq_eq_false_iff_ne.2 (by omega)
                            have hv : t + ((i : Int) * 86400 + 60 * (m : Int) - R) = (F + (i : Int)) * 86400 + 60 * (m : Int) := by have := HDR.out; omega
                            have v0 : -9223372036854775808 ≤ t + ((i : Int) * 86400 + 60 * (m : Int) - R) := by rw [hv]; have := HDR.out; (try have := HI0.out); omega
                            have v1 : t + ((i : Int) * 86400 + 60 * (m : Int) - R) < 9223372036854775808 := by rw [hv]; have := HDR.out; omega
                            have HR : Hid _ := HIT.out (by first | rfl | trivial) m HMR.out (by omega)
                            have HV : Hid _ := hv
                            clear hv HIT FAR HMR hq4
                            go_wp2_with fail
                            refine (HOT.out _).mono ?_
                            rintro e w6 ⟨rfl, hb6⟩
                            have bl6 := bl.trans (hb6.mono bl.size)
                            clear hb6
                            go_wp2_with fail
                            go_ret2
                            rw [HV.out]
                            exact FIN.out _ _ _ HR.out bl6
                          · have q1 : ¬ 106751991167300 < F + (i : Int) := by omega
                            have q2 : (F + (i : Int) == 106751991167300) = true := beq_iff_eq.2 (by omega)
                            have q3 : ¬ 55807 < 60 * (m : Int) := by omega
                            have hv : t + ((i : Int) * 86400 + 60 * (m : Int) - R) = (F + (i : Int)) * 86400 + 60 * (m : Int) := by have := HDR.out; omega
                            have v0 : -9223372036854775808 ≤ t + ((i : Int) * 86400 + 60 * (m : Int) - R) := by rw [hv]; have := HDR.out; (try have := HI0.out); omega
                            have v1 : t + ((i : Int) * 86400 + 60 * (m : Int) - R) < 9223372036854775808 := by rw [hv]; have := HDR.out; omega
                            have HR : Hid _ := HIT.out (by first | rfl | trivial) m HMR.out (by omega)
                            have HV : Hid _ := hv
                            clear hv HIT FAR HMR hq4
                            go_wp2_with fail
                            refine (HOT.out _).mono ?_
                            rintro e w6 ⟨rfl, hb6⟩
                            have bl6 := bl.trans (hb6.mono bl.size)
                            clear hb6
                            go_wp2_with fail
                            go_ret2
                            rw [HV.out]
                            exact FIN.out _ _ _ HR.out bl6
                          · have q1 : ¬ 106751991167300 < F + (i : Int) := by omega
                            have q2 : (F + (i : Int) == 106751991167300) = true := beq_iff_eq.2 (by omega)
                            have q3 : 55807 < 60 * (m : Int) := by omega
                            have HR : Hid _ := FAR.out (by first | rfl | trivial) m HMR.out (by omega)
                            clear HIT FAR HMR hq4
                            go_wp2_with fail
                            refine (HOT.out _).mono ?_
                            rintro e w6 ⟨rfl, hb6⟩
                            have bl6 := bl.trans (hb6.mono bl.size)
                            clear hb6
                            go_wp2_with fail
                            go_ret2
                            exact FIN.out _ _ _ HR.out bl6
                          · have q1 : 106751991167300 < F + (i : Int) := by omega
                            have HR : Hid _ := FAR.out (by first | rfl | trivial) m HMR.out (by omega)
                            clear HIT FAR HMR hq4
                            go_wp2_with fail
                            refine (HOT.out _).mono ?_
                            rintro e w6 ⟨rfl, hb6⟩
                            have bl6 := bl.trans (hb6.mono bl.size)
                            clear hb6
                            go_wp2_with fail
                            go_ret2
                            exact FIN.out _ _ _ HR.out bl6
                  · have hi1 : 1 ≤ i := by omega
                    have s1 := ST1.out (by omega)
                    have k3 : ((i : Int) == 0) = false := beq_eq_false_iff_ne.2 (by omega)
                    have HI0 : Hid _ := hi0
                    clear hi0
                    cases bh with
                    | false =>
                      have HN : Hid _ := hup.next (.inr (by rw [HMB.out]; rfl))
                      clear hup HIT FAR HMB
                      go_wp2_with fail
                      refine (GH.out _).mono ?_
                      rintro e w5 ⟨rfl, rfl⟩
                      go_wp2_with fail
                      exact ⟨⟨m + 1, by go_num, by omega, HN.out, trivial⟩, by simp [intOf]; omega⟩
                    | true =>
                      cases bm with
                      | false =>
                        have HN : Hid _ := hup.next (.inr (by rw [HMB.out]; rfl))
                        clear hup HIT FAR HMB
                        go_wp2_with fail
                        refine (GH.out _).mono ?_
                        rintro e w5 ⟨rfl, rfl⟩
                        go_wp2_with fail
                        refine (GM.out _).mono ?_
                        rintro e w5 ⟨rfl, rfl⟩
                        go_wp2_with fail
                        exact ⟨⟨m + 1, by go_num, by omega, HN.out, trivial⟩, by simp [intOf]; omega⟩
                      | true =>
                        have HMR : Hid _ := hup.hit hm14 (by omega) (by rw [HMB.out]; rfl)
                        clear hup HMB
                        go_wp2_with fail
                        refine (GH.out _).mono ?_
                        rintro e w5 ⟨rfl, rfl⟩
                        go_wp2_with fail
                        refine (GM.out _).mono ?_
                        rintro e w5 ⟨rfl, rfl⟩
                        rcases (show F + (i : Int) < 106751991167300 ∨ (F + (i : Int) = 106751991167300 ∧ 60 * (m : Int) ≤ 55807) ∨ (F + (i : Int) = 106751991167300 ∧ 55807 < 60 * (m : Int)) ∨ 106751991167300 < F + (i : Int) by omega) with hq4 | hq4 | hq4 | hq4
                        · have q1 : ¬ 106751991167300 < F + (i : Int) := by omega
                          have q2 : (F + (i : Int) == 106751991167300) = false := beq_eq_false_iff_ne.2 (by omega)
                          have hv : t + ((i : Int) * 86400 + 60 * (m : Int) - R) = (F + (i : Int)) * 86400 + 60 * (m : Int) := by have := HDR.out; omega
                          have v0 : -9223372036854775808 ≤ t + ((i : Int) * 86400 + 60 * (m : Int) - R) := by rw [hv]; have := HDR.out; (try have := HI0.out); omega
                          have v1 : t + ((i : Int) * 86400 + 60 * (m : Int) - R) < 9223372036854775808 := by rw [hv]; have := HDR.out; omega
                          have HR : Hid _ := HIT.out (by first | rfl | trivial) m HMR.out (by omega)
                          have HV : Hid _ := hv
                          clear hv HIT FAR HMR hq4
                          go_wp2_with fail
                          refine (HOT.out _).mono ?_
                          rintro e w6 ⟨rfl, hb6⟩
                          have bl6 := bl.trans (hb6.mono bl.size)
                          clear hb6
                          go_wp2_with fail
                          go_ret2
                          rw [HV.out]
                          exact FIN.out _ _ _ HR.out bl6
                        · have q1 : ¬ 106751991167300 < F + (i : Int) := by omega
                          have q2 : (F + (i : Int) == 106751991167300) = true := beq_iff_eq.2 (by omega)
                          have q3 : ¬ 55807 < 60 * (m : Int) := by omega
                          have hv : t + ((i : Int) * 86400 + 60 * (m : Int) - R) = (F + (i : Int)) * 86400 + 60 * (m : Int) := by have := HDR.out; omega
                          have v0 : -9223372036854775808 ≤ t + ((i : Int) * 86400 + 60 * (m : Int) - R) := by rw [hv]; have := HDR.out; (try have := HI0.out); omega
                          have v1 : t + ((i : Int) * 86400 + 60 * (m : Int) - R) < 9223372036854775808 := by rw [hv]; have := HDR.out; omega
                          have HR : Hid _ := HIT.out (by first | rfl | trivial) m HMR.out (by omega)
                          have HV : Hid _ := hv
                          clear hv HIT FAR HMR hq4
                          go_wp2_with fail
                          refine (HOT.out _).mono ?_
                          rintro e w6 ⟨rfl, hb6⟩
                          have bl6 := bl.trans (hb6.mono bl.size)
                          clear hb6
                          go_wp2_with fail
                          go_ret2
                          rw [HV.out]
                          exact FIN.out _ _ _ HR.out bl6
                        · have q1 : ¬ 106751991167300 < F + (i : Int) := by omega
                          have q2 : (F + (i : Int) == 106751991167300) = true := beq_iff_eq.2 (by omega)
                          have q3 : 55807 < 60 * (m : Int) := by omega
                          have HR : Hid _ := FAR.out (by first | rfl | trivial) m HMR.out (by omega)
                          clear HIT FAR HMR hq4
                          go_wp2_with fail
                          refine (HOT.out _).mono ?_
                          rintro e w6 ⟨rfl, hb6⟩
                          have bl6 := bl.trans (hb6.mono bl.size)
                          clear hb6
                          go_wp2_with fail
                          go_ret2
                          exact FIN.out _ _ _ HR.out bl6
                        · have q1 : 106751991167300 < F + (i : Int) := by omega
                          have HR : Hid _ := FAR.out (by first | rfl | trivial) m HMR.out (by omega)
                          clear HIT FAR HMR hq4
                          go_wp2_with fail
                          refine (HOT.out _).mono ?_
                          rintro e w6 ⟨rfl, hb6⟩
                          have bl6 := bl.trans (hb6.mono bl.size)
                          clear hb6
                          go_wp2_with fail
                          go_ret2
                          exact FIN.out _ _ _ HR.out bl6
                · obtain rfl : m = 1440 := by omega
                  have NN : Hid _ := NX.out (.inr hup)
                  clear NX HIT FAR hup
                  go_wp2_with fail
                  go_meet
                  exact ⟨NN.out, rfl⟩
      · obtain rfl : i = 10228 := by omega
        have HD : Hid _ := hsn.done
        clear hsn hdt
        go_wp2_with fail
        go_ret2
        exact FIN.out _ _ _ HD.out bl
end Go.Proofs.YtddinknnaakmmaaDoor

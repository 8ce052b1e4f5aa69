/- The document's answer: the date and time of a second. -/
import Derived.Test.YtddinknnaakmmaaDoorCivE
namespace Go.Proofs.YtddinknnaakmmaaDoor
open Go.RowKit

/-- What is known when the year is being looked for: y is no later than it, l days are left. -/
structure RYear (n A y l : Int) : Prop where
  e : ahead y + l = A
  l0 : 0 ≤ l
  y0 : n * 400 + 1970 ≤ y
theorem RYear.y1 {n A y l : Int} (h : RYear n A y l) (a1 : A < n * 146097 + 719528 + 146097) : y < n * 400 + 2370 := by
  have e := h.e
  have l0 := h.l0
  rcases Int.lt_or_le y (n * 400 + 2370) with k | k
  · exact k
  · have := ahead_mono k
    have q := ahead_cycle n 2370
    have z : ahead 2370 = 865625 := by decide
    omega
theorem rYear_first (n l A : Int) (l0 : 0 ≤ l) (e : A = n * 146097 + 719528 + l) : RYear n A (1970 + 400 * n) l := by
  refine ⟨?_, l0, by omega⟩
  have q := ahead_cycle n 1970
  have z : ahead 1970 = 719528 := by decide
  rw [show 1970 + 400 * n = n * 400 + 1970 by omega, q, z]
  omega
theorem RYear.next {n A y l : Int} (h : RYear n A y l) (k : 365 + more y ≤ l) : RYear n A (y + 1) (l - (365 + more y)) :=
  ⟨by have := h.e; rw [ahead_succ]; omega, by omega, by have := h.y0; omega⟩
theorem rdates_end {n A y l m s days : Int} (h : RYear n A y l) (hA : A = days + 719528) (hm : MonthInv y l m s) (hs : s < mdays y m) :
    1 ≤ s + 1 ∧ s + 1 ≤ mdays y m ∧ dayno y m (s + 1) = days := by
  have := hm.s0
  have e := hm.e
  have := h.e
  refine ⟨by omega, by omega, ?_⟩
  unfold dayno
  omega

set_option maxHeartbeats 1600000 in
theorem rOf_any (t : Int) (t0 : -9223372036854775808 ≤ t) (t1 : t < 9223372036854775808) (w : World) :
    Calls Tryd.prog 37 #[.int .i64 t] w (Ofs w t) := by
  obtain ⟨xb, l0⟩ := one_box w 60 (civZ)
  have D0 : -200000000000000 ≤ t / 86400 := by omega
  have D1 : t / 86400 ≤ 200000000000000 := by omega
  have r0 : 0 ≤ t % 86400 := by omega
  have r1 : t % 86400 < 86400 := by omega
  have hs := Over_any t 86400 t0 t1 (by omega) (by omega)
  generalize hd : t / 86400 = days at *
  generalize hr : t % 86400 = r at *
  have HD : Hid _ := hd
  have HR : Hid _ := hr
  clear hd hr
  go_enter Tryd.func37, Tryd.ntmps37
  go_wp2_with fail
  refine (hs _).mono ?_
  rintro e w1 ⟨rfl, hb1⟩
  replace xb := xb.next hb1
  have bl := l0.trans (hb1.mono l0.size)
  clear hb1 l0 hs
  have k0 : 0 ≤ (days + 4) % 7 := by omega
  have k1 : (days + 4) % 7 < 7 := by omega
  have hs := Over_any (days + 4) 7 (by omega) (by omega) (by omega) (by omega)
  generalize hw : (days + 4) % 7 = wk at *
  have HW : Hid _ := hw
  clear hw
  go_wp2_with fail
  refine (hs _).mono ?_
  rintro e w2 ⟨rfl, hb2⟩
  replace xb := xb.next hb2
  replace bl := bl.trans (hb2.mono bl.size)
  clear hb2 hs
  have hs := Over_any days 146097 (by omega) (by omega) (by omega) (by omega)
  have c0 : -2000000000 ≤ days / 146097 := by omega
  have c1 : days / 146097 ≤ 2000000000 := by omega
  have q0 : 0 ≤ days % 146097 := by omega
  have q1 : days % 146097 < 146097 := by omega
  have ec : Hid (days + 719528 = (days / 146097) * 146097 + 719528 + days % 146097) := by show _ = _; omega
  generalize days / 146097 = n at *
  generalize days % 146097 = l at *
  go_wp2_with fail
  refine (hs _).mono ?_
  rintro e w3 ⟨rfl, hb3⟩
  replace xb := xb.next hb3
  replace bl := bl.trans (hb3.mono bl.size)
  clear hb3 hs
  go_wp2_with fail
  go_loop [8, 9] (fun a b => ∃ L Y : Int, a = .int .i64 L ∧ b = .int .i64 Y ∧ RYear n (days + 719528) Y L ∧ L < 146097) (fun a _ => (intOf a).toNat)
  case atStart => exact ⟨_, _, rfl, rfl, rYear_first n l _ q0 ec.out, q1⟩
  case round =>
    obtain ⟨L, Y, rfl, rfl, hy, hl⟩ := hrel
    have ec2 := ec.out
    have y0 := hy.y0
    have y1 := hy.y1 (by omega)
    have L0 := hy.l0
    have m01 := more_01 Y
    have hg := long_any Y
    clear ec2
    by_cases hk : 365 + more Y ≤ L
    · have HN : Hid _ := hy.next hk
      have g0 : 365 ≤ 365 + more Y := by omega
      have g1 : 365 + more Y ≤ 366 := by omega
      generalize 365 + more Y = G at *
      go_wp2_with fail
      refine (hg _).mono ?_
      rintro e w4 ⟨rfl, rfl⟩
      go_wp2_with fail
      refine (hg _).mono ?_
      rintro e w4 ⟨rfl, rfl⟩
      go_wp2_with fail
      go_round
      case rel => exact ⟨_, _, rfl, rfl, HN.out, by omega⟩
      case measure => simp [intOf]; omega
    · have HL := fun m s (h : MonthInv Y L m s) => h.next (show L < 365 + more Y by omega)
      have HE := fun m s => @rdates_end n (days + 719528) Y L m s days hy rfl
      generalize 365 + more Y = G at *
      go_wp2_with fail
      refine (hg _).mono ?_
      rintro e w4 ⟨rfl, rfl⟩
      go_wp2_with fail
      go_loop [8, 10] (fun s m => ∃ S M : Int, s = .int .i64 S ∧ m = .int .i64 M ∧ MonthInv Y L M S ∧ S ≤ L) (fun _ m => (13 - intOf m).toNat)
      case atStart => exact ⟨_, _, rfl, rfl, ⟨by omega, by omega, by omega, by rw [cum_one]; omega⟩, by omega⟩
      case round =>
        obtain ⟨S, M, rfl, rfl, hm, hS⟩ := hrel
        have m0 := hm.m0
        have m1 := hm.m1
        have s0 := hm.s0
        have hd := rDays_any Y M
        have dp := mdays_pos Y M m0 m1
        obtain ⟨d0, d1⟩ := dp
        by_cases hk : mdays Y M ≤ S
        · have HK : Hid _ := HL M S hm hk
          generalize mdays Y M = D at *
          go_wp2_with fail
          refine (hd _).mono ?_
          rintro e w4 ⟨rfl, rfl⟩
          go_wp2_with fail
          refine (hd _).mono ?_
          rintro e w4 ⟨rfl, rfl⟩
          go_wp2_with fail
          go_round
          case rel => exact ⟨_, _, rfl, rfl, HK.out, by omega⟩
          case measure => simp [intOf]; omega
        · obtain ⟨e1, e2, e3⟩ := HE M S hm (by omega)
          have AA : Hid _ := at_of (wk := wk) (r := r) (t := t) e1 e2 (e3.trans HD.out.symm) (by rw [HD.out]; exact HW.out.symm) HR.out.symm
          clear e1 e2 e3 HE hg
          generalize mdays Y M = D at *
          have h1 := Over_any r 3600 (by omega) (by omega) (by omega) (by omega)
          have h2 := Over_any (r % 3600) 60 (by omega) (by omega) (by omega) (by omega)
          rw [show r % 3600 % 60 = r % 60 by omega] at h2
          have f0 : 0 ≤ r / 3600 := by omega
          have f1 : r / 3600 ≤ 24 := by omega
          have f2 : 0 ≤ r % 3600 / 60 := by omega
          have f3 : r % 3600 / 60 ≤ 60 := by omega
          have f4 : 0 ≤ r % 60 := by omega
          have f5 : r % 60 ≤ 60 := by omega
          generalize r / 3600 = hh at *
          generalize r % 60 = ss at *
          generalize r % 3600 / 60 = mi at *
          generalize r % 3600 = rr at *
          go_wp2_with fail
          refine (hd _).mono ?_
          rintro e w4 ⟨rfl, rfl⟩
          go_wp2_with fail
          refine (h1 _).mono ?_
          rintro e w4 ⟨rfl, hb4⟩
          replace xb := xb.next hb4
          replace bl := bl.trans (hb4.mono bl.size)
          clear hb4
          go_wp2_with fail
          refine (h2 _).mono ?_
          rintro e w5 ⟨rfl, hb5⟩
          replace xb := xb.next hb5
          replace bl := bl.trans (hb5.mono bl.size)
          clear hb5
          obtain ⟨o0, o1, o2, o3, o4, o5, o6, g0, g1, g2, g3, g4, g5, g6⟩ := xb.seven
          go_wp2_with fail
          refine bodyPost_ret (v := civV ⟨Y, M, S + 1, hh, mi, ss, wk⟩) (by simp [results, Tryd.results37, go_sem, o0, o1, o2, o3, o4, o5, o6]) rfl ?_
          exact ⟨_, rfl, AA.out, by simp only; omega, by simp only; omega, below_seven bl (Nat.le_refl _) _ _ _ _ _ _ _⟩
end Go.Proofs.YtddinknnaakmmaaDoor

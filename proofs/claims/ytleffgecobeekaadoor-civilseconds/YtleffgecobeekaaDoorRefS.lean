/- The document's answer: the second of a date and time. -/
import Derived.Test.YtleffgecobeekaaDoorRefN
namespace Go.Proofs.YtleffgecobeekaaDoor
open Go.RowKit

theorem ref_first (n : Int) : n * 146097 = n * 146097 + ahead (1970 + 0) - 719528 := by
  have z : ahead (1970 + 0) = 719528 := by decide
  omega
theorem ref_year (n i d : Int) (h : d = n * 146097 + ahead (1970 + i) - 719528) : d + (365 + more (1970 + i)) = n * 146097 + ahead (1970 + (i + 1)) - 719528 := by
  have := ahead_succ (1970 + i)
  rw [show 1970 + (i + 1) = 1970 + i + 1 by omega]
  omega
theorem ref_month (y m A d : Int) (h : d = A + cum y m) (h0 : 1 ≤ m) (h1 : m ≤ 12) : d + mdays y m = A + cum y (m + 1) := by
  rw [cum_succ y m h0 h1]; omega
theorem ref_last (y n k m d x : Int) (hy : y = n * 400 + (1970 + k)) (h : d = n * 146097 + ahead (1970 + k) - 719528 + cum y m) : d + (x - 1) = dayno y m x := by
  unfold dayno
  have := ahead_cycle n (1970 + k)
  rw [← hy] at this
  omega
theorem ahead_small (i : Int) (h0 : 0 ≤ i) (h1 : i ≤ 400) : 719528 ≤ ahead (1970 + i) ∧ ahead (1970 + i) ≤ 865625 := by
  have a := ahead_mono (show 1970 ≤ 1970 + i by omega)
  have b := ahead_mono (show 1970 + i ≤ 2370 by omega)
  have z : ahead 1970 = 719528 := by decide
  have q : ahead 2370 = 865625 := by decide
  omega
theorem cum_small (y m : Int) (h0 : 1 ≤ m) (h1 : m ≤ 12) : 0 ≤ cum y m ∧ cum y m ≤ 366 := by
  have := more_01 y
  unfold cum
  have : m = 1 ∨ m = 2 ∨ m = 3 ∨ m = 4 ∨ m = 5 ∨ m = 6 ∨ m = 7 ∨ m = 8 ∨ m = 9 ∨ m = 10 ∨ m = 11 ∨ m = 12 := by omega
  rcases this with rfl | rfl | rfl | rfl | rfl | rfl | rfl | rfl | rfl | rfl | rfl | rfl <;> simp <;> omega

/-- What Seconds answers of a whole day and what is behind it. -/
def secZ (n : Int) : Option Int := if -9223372036854775808 ≤ n ∧ n < 9223372036854775808 then some n else none
theorem secZ_in (n : Int) (h : -9223372036854775808 ≤ n ∧ n < 9223372036854775808) : secZ n = some n := if_pos h
theorem secZ_out (n : Int) (h : ¬ (-9223372036854775808 ≤ n ∧ n < 9223372036854775808)) : secZ n = none := if_neg h
theorem secS_Z (c : Civ) (F : Formed c) (Y R : Int) (hY : Y = dayno c.year c.month c.day) (hR : c.hour * 3600 + c.minute * 60 + c.second = R) : secS c = secZ (Y * 86400 + R) := by
  have e : secOf c = Y * 86400 + R := by unfold secOf; rw [← hY, hR]
  unfold secS secZ
  rw [(formedB_iff c).2 F, e]
  simp
theorem sec_val (Y R n : Int) (h : n = Y * 86400 + R) (k : -9223372036854775808 ≤ n ∧ n < 9223372036854775808) : Ending.returned (.tuple #[.int .i64 n, .bool true]) = .returned (secV (secZ (Y * 86400 + R))) := by
  rw [← h, secZ_in n k]; rfl
theorem sec_not (Y R : Int) (k : ¬ (-9223372036854775808 ≤ Y * 86400 + R ∧ Y * 86400 + R < 9223372036854775808)) : Ending.returned (.tuple #[.int .i64 0, .bool false]) = .returned (secV (secZ (Y * 86400 + R))) := by
  rw [secZ_out _ k]; rfl

set_option maxRecDepth 20000 in
set_option maxHeartbeats 4000000 in
theorem rSeconds_ok (c : Civ) (F : Formed c) (yr0 : c.year ≤ 292277026596) (yr1 : -292277022657 ≤ c.year) (w : World) :
    Calls Tryd.prog 13 #[civV c] w fun e w' => e = .returned (secV (secS c)) ∧ Below w.heap.size w w' := by
  obtain ⟨xb, l0⟩ := one_box w 24 (civCells c)
  obtain ⟨o0, o1, o2, o3, o4, o5, o6, cf⟩ := xb.seven
  clear cf
  have hd := rDays_any c.year c.month
  have hdq := fun wx k => Calls.quiet_of_same (n := k) ((hd (World.drewN wx k)).mono fun _ _ k => ⟨k.1, k.2.symm⟩)
  have f0 := F.h0
  have f1 := F.h1
  have f2 := F.n0
  have f3 := F.n1
  have f4 := F.s0
  have f5 := F.s1
  have m0 := F.m0
  have m1 := F.m1
  have dd0 := F.d0
  have dd1 := F.d1
  have dd2 := (mdays_bounds c.year c.month).2
  generalize mdays c.year c.month = D at *
  have y1 : decide (c.day < 1) = false := decide_eq_false (by omega)
  have y2 : decide (D < c.day) = false := decide_eq_false (by omega)
  have y3 : decide (c.hour < 0) = false := decide_eq_false (by omega)
  have y4 : decide (23 < c.hour) = false := decide_eq_false (by omega)
  have y5 : decide (c.minute < 0) = false := decide_eq_false (by omega)
  have y6 : decide (59 < c.minute) = false := decide_eq_false (by omega)
  have y7 : decide (c.second < 0) = false := decide_eq_false (by omega)
  have y8 : decide (59 < c.second) = false := decide_eq_false (by omega)
  have y9 : decide (292277026596 < c.year) = false := decide_eq_false (by omega)
  have y10 : decide (c.year < -292277022657) = false := decide_eq_false (by omega)
  go_enter Tryd.func13, Tryd.ntmps13
  go_wp2_with fail
  go_quiet (first | (go_at_call 17; exact hdq _ _))
  clear y1 y2 y3 y4 y5 y6 y7 y8 hdq hd o0 o1 o2 o3 o4 o5 o6
  replace xb := xb.next (below_drewN (Below.refl _ _) nq)
  have bl := below_drewN l0 nq
  clear l0
  generalize World.drewN (w.alloc (.cells #[.int .i64 c.year, .int .i64 c.month, .int .i64 c.day, .int .i64 c.hour, .int .i64 c.minute, .int .i64 c.second, .int .i64 c.week] 24)) nq = W at *
  obtain ⟨o0, o1, o2, o3, o4, o5, o6, cf⟩ := xb.seven
  clear cf
  have hs := Over_any (c.year - 1970) 400 (by omega) (by omega) (by omega) (by omega)
  have k0 : 0 ≤ (c.year - 1970) % 400 := by omega
  have k1 : (c.year - 1970) % 400 < 400 := by omega
  have n0 : -1000000000 ≤ (c.year - 1970) / 400 := by omega
  have n1 : (c.year - 1970) / 400 ≤ 1000000000 := by omega
  have ey : Hid (c.year = (c.year - 1970) / 400 * 400 + (1970 + (c.year - 1970) % 400)) := by show _ = _; omega
  generalize (c.year - 1970) / 400 = n at *
  generalize (c.year - 1970) % 400 = k at *
  go_wp2_with fail
  refine (hs _).mono ?_
  rintro e w1 ⟨rfl, hb1⟩
  replace xb := xb.next hb1
  replace bl := bl.trans (hb1.mono bl.size)
  clear hb1 hs o0 o1 o2 o3 o4 o5 o6 y9 y10
  have c1 := xb.cell 1 _ rfl
  have c0 := xb.cell 0 _ rfl
  have c2 := xb.cell 2 _ rfl
  have c3 := xb.cell 3 _ rfl
  have c4 := xb.cell 4 _ rfl
  have c5 := xb.cell 5 _ rfl
  go_wp2_with fail
  go_loop [6, 7] (fun d i => ∃ N I : Int, d = .int .i64 N ∧ i = .int .i64 I ∧ 0 ≤ I ∧ I ≤ k ∧ N = n * 146097 + ahead (1970 + I) - 719528) (fun _ i => (400 - intOf i).toNat)
  case atStart => exact ⟨_, _, rfl, rfl, by omega, k0, ref_first n⟩
  case round =>
    obtain ⟨N, I, rfl, rfl, i0, i1, hN⟩ := hrel
    have asm := ahead_small I i0 (by omega)
    have b0 : -200000000000000 ≤ N := by omega
    have b1 : N ≤ 200000000000000 := by omega
    clear asm
    by_cases hk : I < k
    · have HK : Hid _ := ref_year n I N hN
      have mo := more_01 (1970 + I)
      have g0 : 365 ≤ 365 + more (1970 + I) := by omega
      have g1 : 365 + more (1970 + I) ≤ 366 := by omega
      have hg := long_any (1970 + I)
      clear hN mo
      generalize 365 + more (1970 + I) = G at *
      go_wp2_with fail
      refine (hg _).mono ?_
      rintro e w4 ⟨rfl, rfl⟩
      go_wp2_with fail
      go_round
      case rel => exact ⟨_, _, rfl, rfl, by omega, by omega, HK.out⟩
      case measure => simp [intOf]; omega
    · obtain rfl : I = k := by omega
      have HN : Hid _ := hN
      clear hN
      go_wp2_with fail
      go_loop [6, 8] (fun d m => ∃ X M : Int, d = .int .i64 X ∧ m = .int .i64 M ∧ 1 ≤ M ∧ M ≤ c.month ∧ X = N + cum c.year M) (fun _ m => (13 - intOf m).toNat)
      case atStart => exact ⟨_, _, rfl, rfl, by omega, m0, by rw [cum_one]; omega⟩
      case round =>
        obtain ⟨X, M, rfl, rfl, q0, q1, hX⟩ := hrel
        have cs := cum_small c.year M q0 (by omega)
        have x0 : -200000000001000 ≤ X := by omega
        have x1 : X ≤ 200000000001000 := by omega
        clear cs
        by_cases hk : M < c.month
        · have HK : Hid _ := ref_month c.year M N X hX q0 (by omega)
          have hd := rDays_any c.year M
          have db := mdays_bounds c.year M
          obtain ⟨d0, d1⟩ := db
          clear hX
          generalize mdays c.year M = DD at *
          go_wp2_with fail
          refine (hd _).mono ?_
          rintro e w4 ⟨rfl, rfl⟩
          go_wp2_with fail
          go_round
          case rel => exact ⟨_, _, rfl, rfl, by omega, by omega, HK.out⟩
          case measure => simp [intOf]; omega
        · obtain rfl : M = c.month := by omega
          have HX : Hid _ := ref_last c.year n I c.month X c.day ey.out (by rw [hX, HN.out])
          clear hX
          have t1 := Over_any 9223372036854775807 86400 (by decide) (by decide) (by decide) (by decide)
          have t2 := Over_any (-9223372036854775808) 86400 (by decide) (by decide) (by decide) (by decide)
          rw [show (9223372036854775807 : Int) / 86400 = 106751991167300 by decide, show (9223372036854775807 : Int) % 86400 = 55807 by decide] at t1
          rw [show (-9223372036854775808 : Int) / 86400 = -106751991167301 by decide, show (-9223372036854775808 : Int) % 86400 = 30592 by decide] at t2
          go_wp2_with fail
          have Y0 : -200000000002000 ≤ X + (c.day - 1) := by omega
          have Y1 : X + (c.day - 1) ≤ 200000000002000 := by omega
          have R0 : 0 ≤ c.hour * 3600 + c.minute * 60 + c.second := by omega
          have R1 : c.hour * 3600 + c.minute * 60 + c.second < 86400 := by omega
          have HS : Hid _ := secS_Z c F (X + (c.day - 1)) _ HX.out rfl
          generalize X + (c.day - 1) = Y at *
          generalize c.hour * 3600 + c.minute * 60 + c.second = R at *
          clear f0 f1 f2 f3 f4 f5 m0 m1 dd0 dd1 dd2 yr0 yr1 c0 c1 c2 c3 c4 c5 k0 k1 n0 n1 b0 b1 x0 x1 i0 i1 q0 q1 hk
          refine (t1 _).mono ?_
          rintro e w5 ⟨rfl, hb5⟩
          replace bl := bl.trans (hb5.mono bl.size)
          clear hb5 t1
          go_wp2_with fail
          refine (t2 _).mono ?_
          rintro e w6 ⟨rfl, hb6⟩
          replace bl := bl.trans (hb6.mono bl.size)
          clear hb6 t2
          go_wp2_with fail
          all_goals
            go_ret2
            refine ⟨?_, bl⟩
            rw [HS.out]
            first | exact sec_not Y R (by omega) | exact sec_val Y R _ (by omega) (by omega)
end Go.Proofs.YtleffgecobeekaaDoor

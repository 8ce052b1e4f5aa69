/- Package civil: the date of a day. -/
import Derived.Test.YtddinknnaakmmabDoorCivB
namespace Go.Proofs.YtddinknnaakmmabDoor
open Go.RowKit

abbrev civV (c : Civ) : Value := .agg #[.int .i64 c.year, .int .i64 c.month, .int .i64 c.day, .int .i64 c.hour, .int .i64 c.minute, .int .i64 c.second, .int .i64 c.week]
abbrev civZ : List Value := [.int .i64 0, .int .i64 0, .int .i64 0, .int .i64 0, .int .i64 0, .int .i64 0, .int .i64 0]
/-- What date answers. -/
def Dates (w : World) (n : Int) (e : Ending) (w' : World) : Prop :=
  ∃ y m d wk : Int, e = .returned (civV ⟨y, m, d, 0, 0, 0, wk⟩) ∧ 1 ≤ d ∧ d ≤ mdays y m ∧ dayno y m d = n ∧ wk = (n + 4) % 7 ∧ -1000000000000 < y ∧ y < 1000000000000 ∧ Below w.heap.size w w'

/-- What is known when the year is being looked for: z is no later than it. -/
structure YearInv (r z : Int) : Prop where
  z0 : 0 ≤ z
  z1 : z ≤ 399
  a : ahead z ≤ r
theorem yearInv_first (r : Int) (r0 : 0 ≤ r) (r1 : r < 146097) : YearInv r (r / 366) := by
  exact ⟨by omega, by omega, by unfold ahead; omega⟩
theorem YearInv.next {r z : Int} (r1 : r < 146097) (h : YearInv r z) (k : ahead (z + 1) ≤ r) : YearInv r (z + 1) := by
  refine ⟨by have := h.z0; omega, ?_, k⟩
  rcases Int.lt_or_le 399 (z + 1) with c | c
  · have := ahead_mono (show 400 ≤ z + 1 by omega)
    have e : ahead 400 = 146097 := by decide
    omega
  · exact c
/-- What is known when the month is being looked for. -/
structure MonthInv (y r m s : Int) : Prop where
  m0 : 1 ≤ m
  m1 : m ≤ 12
  s0 : 0 ≤ s
  e : cum y m + s = r
theorem MonthInv.next {y r m s : Int} (r1 : r < 365 + more y) (h : MonthInv y r m s) (k : mdays y m ≤ s) : MonthInv y r (m + 1) (s - mdays y m) := by
  have c := cum_succ y m h.m0 h.m1
  have e := h.e
  refine ⟨by have := h.m0; omega, ?_, by omega, by omega⟩
  rcases Int.lt_or_le 12 (m + 1) with q | q
  · obtain rfl : m = 12 := by have := h.m1; omega
    rw [show (12 : Int) + 1 = 13 from rfl, cum_end] at c
    omega
  · exact q
theorem dates_end {n cyc r y m s : Int} (ec : n + 719528 = 146097 * cyc + r) (hm : MonthInv y (r - ahead y) m s) (hs : s < mdays y m) :
    1 ≤ s + 1 ∧ s + 1 ≤ mdays (cyc * 400 + y) m ∧ dayno (cyc * 400 + y) m (s + 1) = n := by
  have := hm.s0
  have e := hm.e
  rw [mdays_cycle]
  refine ⟨by omega, by omega, ?_⟩
  unfold dayno
  rw [ahead_cycle, cum_cycle]
  omega

set_option maxHeartbeats 800000 in
theorem date_any (n : Int) (n0 : -200000000000000 ≤ n) (n1 : n ≤ 200000000000000) (w : World) (hL : LenAt w) :
    Calls Tryd.prog 19 #[.int .i64 n] w (Dates w n) := by
  obtain ⟨xb, l0⟩ := one_box w 33 (civZ)
  have hL := hL.later l0
  go_enter Tryd.func19, Tryd.ntmps19
  go_wp2_with fail
  refine (split_any (n + 719528) 146097 (by omega) (by omega) (by omega) (by omega) _).mono ?_
  rintro e w1 ⟨rfl, hb1⟩
  have hL := hL.later hb1
  have xb := xb.next hb1
  have bl := l0.trans (hb1.mono l0.size)
  clear hb1 l0
  have r0 : 0 ≤ (n + 719528) % 146097 := by omega
  have r1 : (n + 719528) % 146097 < 146097 := by omega
  have c0 : -2000000000 ≤ (n + 719528) / 146097 := by omega
  have c1 : (n + 719528) / 146097 ≤ 2000000000 := by omega
  have ec : Hid (n + 719528 = 146097 * ((n + 719528) / 146097) + (n + 719528) % 146097) := (Int.mul_ediv_add_emod (n + 719528) 146097).symm
  generalize (n + 719528) / 146097 = cyc at *
  generalize (n + 719528) % 146097 = r at *
  go_wp2_with fail
  go_loop [5] (fun y => ∃ z : Int, y = .int .i64 z ∧ YearInv r z) (fun y => (400 - intOf y).toNat)
  case atStart => exact ⟨_, rfl, yearInv_first r r0 r1⟩
  case round =>
    obtain ⟨z, rfl, hz⟩ := hrel
    have z0 := hz.z0
    have z1 := hz.z1
    have ha := ahead_any (z + 1) (by omega) (by omega)
    by_cases hc : ahead (z + 1) ≤ r
    · have HZ : Hid _ := hz.next r1 hc
      generalize ahead (z + 1) = a at *
      go_wp2_with fail
      refine (ha _).mono ?_
      rintro e w2 ⟨rfl, rfl⟩
      go_wp2_with fail
      go_round
      case rel => exact ⟨_, rfl, HZ.out⟩
      case measure => simp [intOf]; omega
    · have hb := ahead_any z (by omega) (by omega)
      have b0 := hz.a
      have b1 := ahead_mono z0
      rw [show ahead 0 = 0 by decide] at b1
      have HM : Hid (r - ahead z < 365 + more z) := by have := ahead_succ z; show _ < _; omega
      have HZ : Hid _ := hz
      have HE := @dates_end n cyc r z
      generalize ahead (z + 1) = a at *
      generalize ahead z = b at *
      go_wp2_with fail
      refine (ha _).mono ?_
      rintro e w2 ⟨rfl, rfl⟩
      go_wp2_with fail
      refine (hb _).mono ?_
      rintro e w2 ⟨rfl, rfl⟩
      go_wp2_with fail
      go_loop [4, 6] (fun s m => ∃ S M : Int, s = .int .i64 S ∧ m = .int .i64 M ∧ MonthInv z (r - b) M S ∧ S ≤ r - b) (fun _ m => (13 - intOf m).toNat)
      case atStart => exact ⟨_, _, rfl, rfl, ⟨by omega, by omega, by omega, by rw [cum_one]; omega⟩, by omega⟩
      case round =>
        obtain ⟨S, M, rfl, rfl, hm, hS⟩ := hrel
        have m0 := hm.m0
        have m1 := hm.m1
        have s0 := hm.s0
        have hd := Days_any z M
        have dp := mdays_pos z M m0 m1
        obtain ⟨d0, d1⟩ := dp
        by_cases hk : mdays z M ≤ S
        · have HK : Hid _ := hm.next HM.out hk
          generalize mdays z M = D at *
          go_wp2_with fail
          refine (hd _ hL).mono ?_
          rintro e w2 ⟨rfl, rfl⟩
          go_wp2_with fail
          refine (hd _ hL).mono ?_
          rintro e w2 ⟨rfl, rfl⟩
          go_wp2_with fail
          go_round
          case rel => exact ⟨_, _, rfl, rfl, HK.out, by omega⟩
          case measure => simp [intOf]; omega
        · have HX : Hid _ := HE ec.out hm (by omega)
          generalize mdays z M = D at *
          clear HE
          go_wp2_with fail
          refine (hd _ hL).mono ?_
          rintro e w2 ⟨rfl, rfl⟩
          go_wp2_with fail
          refine (split_any (n + 4) 7 (by omega) (by omega) (by omega) (by omega) _).mono ?_
          rintro e w3 ⟨rfl, hb3⟩
          have xb := xb.next hb3
          have bl := bl.trans (hb3.mono bl.size)
          obtain ⟨o0, o1, o2, o3, o4, o5, o6, g0, g1, g2, g3, g4, g5, g6⟩ := xb.seven
          have k0 : 0 ≤ (n + 4) % 7 := by omega
          have k1 : (n + 4) % 7 < 7 := by omega
          generalize hw : (n + 4) % 7 = wk at k0 k1 ⊢
          have HW : Hid _ := hw
          clear hw
          go_wp2_with fail
          refine bodyPost_ret (v := civV ⟨cyc * 400 + z, M, S + 1, 0, 0, 0, wk⟩) (by simp [results, Tryd.results19, go_sem, o0, o1, o2, o3, o4, o5, o6]) rfl ?_
          obtain ⟨x1, x2, x3⟩ := HX.out
          exact ⟨_, _, _, _, rfl, x1, x2, x3, HW.out.symm, by omega, by omega, below_seven bl (Nat.le_refl _) _ _ _ _ _ _ _⟩
end Go.Proofs.YtddinknnaakmmabDoor

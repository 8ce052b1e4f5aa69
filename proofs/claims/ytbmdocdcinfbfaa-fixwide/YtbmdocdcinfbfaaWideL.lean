/- The statement FixWide: the walk of her Go text, out of the contracts of package fix and of the document's arithmetic. -/
import Derived.Test.YtbmdocdcinfbfaaWideG
import Derived.Test.YtbmdocdcinfbfaaFix2
import Derived.OpenShut
namespace Go.Proofs.Ytbmdocdcinfbfaa
open Go.RowKit Go.Deep

/-- What the walk is told of the list that came in: n puts, each a bool and an int64. -/
def IsPuts (w : World) (a : Option Addr) (n : Nat) (O : Nat → Bool) (V : Nat → Int) : Prop :=
  n = 0 ∨ ∃ b off, a = some ⟨b, off, none⟩ ∧ b < w.heap.size ∧ n ≤ maxLen ∧ ∀ i, i < n → w.cell? ⟨b, off + i * 2, none⟩ = some (.bool (O i)) ∧ w.cell? ⟨b, off + i * 2 + 1, none⟩ = some (.int .i64 (V i)) ∧ -9223372036854775808 ≤ V i ∧ V i < 9223372036854775808

set_option maxHeartbeats 40000000 in
set_option maxRecDepth 100000 in
theorem fixWide_walk (a : Option Addr) (n c : Nat) (O : Nat → Bool) (V : Nat → Int) (d : Int) (w : World) (hp : IsPuts w a n O V) (hd : (Lit.int .i64 d).wf = true) :
    Calls Try.prog 6 #[.slice a n c, .int .i64 d] w fun e w' => e = .returned (.bool true) ∧ Below w.heap.size w w' := by
  have d1 : d < 9223372036854775808 := by have := bounds_i64 hd; omega
  clear hd
  go_enter Try.func6, Try.ntmps6
  go_wp2_with fail
  refine (awake_any _).mono ?_
  rintro e w1 ⟨rfl, hb1⟩
  go_wp2_with fail
  go_loopw [7] (fun i wr => ∃ (k : Nat) (lo hi N : Int) (neg : Bool) (sv : Value) (l : List Int), i = .int .i64 k ∧ k ≤ n ∧ WI w1.heap.size k lo hi N neg sv l wr ∧ Below w.heap.size w wr) (fun i _ => n - (intOf i).toNat)
  case atStart =>
    refine ⟨0, 0, 0, 0, false, .slice none 0 0, [], rfl, Nat.zero_le _, ⟨?_, ?_, ?_, ?_, ?_, ?_, ?_, ?_, rep_zero, ⟨isD_nil _, dgs_nil, trim_nil, rfl⟩, by decide, by decide, ?_⟩, (hb1.alloc hb1.size _).alloc (by have := hb1.size; simp; omega) _⟩
    all_goals simp [go_sem]
  case round =>
    obtain ⟨k, lo, hi, N, neg, sv, l, rfl, hk, wi, bl⟩ := hrel
    have hB := hb1.size
    clear hb1
    by_cases hlt : k < n
    · rcases hp with hp | ⟨b, off, rfl, hbw, hnm, hcell⟩
      · omega
      obtain ⟨q0, q1, x0, x1⟩ := hcell k hlt
      unfold maxLen at hnm
      clear hcell
      have k1 : (k : Int) < (n : Int) := by omega
      have e0 : wr.cell? ⟨b, off + k * 2, none⟩ = some (.bool (O k)) := (bl.cell (p := ⟨b, off + k * 2, none⟩) hbw).trans q0
      have e1 : wr.cell? ⟨b, off + k * 2 + 1, none⟩ = some (.int .i64 (V k)) := (bl.cell (p := ⟨b, off + k * 2 + 1, none⟩) hbw).trans q1
      have i0 := wi.c0
      have i1 := wi.c1
      have l0 := wi.lo'
      have l1 := wi.hi'
      generalize V k = x at *
      generalize O k = o at *
      have hbr : b < wr.heap.size := by have := bl.size; omega
      have xn0 : -18446744073709551616 < x := by omega
      have xn1 : x < 18446744073709551616 := by omega
      have xn2 : -18446744073709551616 < -x := by omega
      have xn3 : -x < 18446744073709551616 := by omega
      have G0 := WG.start wi
      have bl0 : Below w.heap.size w (wr.alloc (.cells #[.int .u64 lo, .int .u64 hi] 36)) := bl.alloc bl.size _
      have hsz := wi.sz
      have ltB0 : w1.heap.size < (wr.alloc (.cells #[.int .u64 lo, .int .u64 hi] 36)).heap.size := by simp; omega
      cases o
      · skip
        go_wp2_with fail
        refine (wAdd_at w1.heap.size lo hi N x wi.rep x0 x1 (by omega) (by omega) _ ltB0 G0.c0 G0.c1 G0.f0 G0.f1).mono ?_
        rintro e wp ⟨lo2, hi2, w2, rfl, r2, hb2, hwp⟩
        have G1 := (G0.later hb2).putW r2
        have bl1 : Below w.heap.size w wp := by rw [hwp]; exact ((bl0.trans (hb2.mono bl0.size)).setCell (by simp; omega) _).setCell (by simp; omega) _
        have v1 : wp.cell? ⟨b, off + k * 2 + 1, none⟩ = some (.int .i64 x) := (bl1.cell (p := ⟨b, off + k * 2 + 1, none⟩) hbw).trans q1
        rw [← hwp] at G1
        clear hwp hb2
        obtain ⟨asv, csv, hsv, _⟩ := G1.big.isD
        subst hsv
        have m0 := G1.s0
        have m1 := G1.s1
        have nb0 : -(((k + 1 : Nat) : Int) * 9223372036854775808) ≤ N + x := by omega
        have nb1 : N + x ≤ ((k + 1 : Nat) : Int) * 9223372036854775808 := by omega
        have nn0 : -170141183460469231731687303715884105728 < N + x := by omega
        have len1 := G1.big.len8 (by omega) (by omega)
        have len1 : l.length ≤ 500 := by omega
        go_wp2_with fail
        go_region_with (first | (go_at_call 35; refine (Of_any x x0 x1 _).mono ?_; rintro e w3 ⟨nx, sx, lx, rfl, vx, hb3⟩; have GB := G1.later ((Below.refl _ _).drew.trans hb3); have lenx := vx.len4 xn0 xn1; have z0 := GB.s0; have z1 := GB.s1) | (go_at_call 33; refine (Plus_any neg nx _ sx l lx N (x) _ GB.big vx len1 lenx).mono ?_; rintro e w4 ⟨ny, sy, ly, rfl, vy, hb4⟩; have GC := GB.later hb4; have y0 := GC.s0; have y1 := GC.s1; have y2 := GC.g0; have y3 := GC.g1; have VY := vy; obtain ⟨ay, cy, rfl, _⟩ := vy.isD))
        all_goals
          have G2 := GC.putS VY
          have bl2 : Below w.heap.size w ((w4.setCell ⟨w1.heap.size + 1, 0, none⟩ (.bool ny)).setCell ⟨w1.heap.size + 1, 1, none⟩ (.slice ay ly.length cy)) := ((((bl1.drew).trans (hb3.mono bl1.size)).trans (hb4.mono (Nat.le_trans bl1.size hb3.size))).setCell (by simp; omega) _).setCell (by simp; omega) _
          clear m0 m1 v1 y0 y1 y2 y3 z0 z1
          generalize ((w4.setCell ⟨w1.heap.size + 1, 0, none⟩ (.bool ny)).setCell ⟨w1.heap.size + 1, 1, none⟩ (.slice ay ly.length cy)) = wz at *
          have ltB : w1.heap.size < wz.heap.size := by have h1 := G2.z1; have h2 := G2.z2; omega
          have len2 := G2.big.len8 (by omega) (by omega)
          have t0 := G2.c0
          have t1 := G2.c1
          go_wp2_with fail
          refine (wFit_tells _ lo2 hi2 (N + x) G2.rep _ ltB t0 t1).mono ?_
          rintro e w5 ⟨xa, ba, rfl, qa, qx, qz, hb5⟩
          have G3 := G2.later hb5
          have bl5 := bl2.trans (hb5.mono bl2.size)
          have lt5 : w1.heap.size < w5.heap.size := Nat.lt_of_lt_of_le ltB hb5.size
          clear t0 t1
          have t2 := G3.s0
          have t3 := G3.s1
          go_wp2_with fail
          refine (rFit_any ny _ ly (N + x) _ G3.big).mono ?_
          rintro e w6 ⟨xb, bb, rfl, rb, rx, hb6⟩
          have G4 := G3.later hb6
          have bl6 := bl5.trans (hb6.mono bl5.size)
          have lt6 : w1.heap.size < w6.heap.size := Nat.lt_of_lt_of_le lt5 hb6.size
          clear t2 t3
          obtain ⟨xc, hab, hax⟩ : ∃ xc, ba = bb ∧ xa = (if bb = true then xb else 0) ∧ xc = xa := by
            refine ⟨xa, ?_, ?_, rfl⟩
            · rw [Bool.eq_iff_iff]; exact qa.trans rb.symm
            · cases hbb : bb
              · rw [if_neg (by simp)]; exact qz (by cases hba : ba; rfl; exact absurd (rb.2 (qa.1 hba)) (by simp [hbb]))
              · rw [if_pos rfl, rx hbb]; exact qx (qa.2 (rb.1 hbb))
          obtain ⟨hax, _⟩ := hax
          subst hab
          subst hax
          clear qa qx qz rb rx
          have t4 := G4.c0
          have t5 := G4.c1
          have hq : ∀ y : Int, (y != y) = false := fun y => by simp
          by_cases hd1 : d < 1
          · cases ba
            all_goals
              go_wp2_with fail
              refine (wMean_none _ d hd1 _).mono ?_
              rintro e w7 ⟨rfl, hb7⟩
              have G5 := G4.later hb7
              have bl7 := bl6.trans (hb7.mono bl6.size)
              have t6 := G5.s0
              have t7 := G5.s1
              go_wp2_with fail
              refine (rMean_none ny _ ly (N + x) d _ G5.big hd1).mono ?_
              rintro e w8 ⟨rfl, hb8⟩
              have GZ := G5.later hb8
              have blz := bl7.trans (hb8.mono bl7.size)
              clear t4 t5 t6 t7
              go_wp2_with fail
              refine (wAdd_at wr.heap.size lo hi N 1 wi.rep (by decide) (by decide) (by omega) (by omega) _ GZ.z2 GZ.o0 GZ.o1 GZ.p0 GZ.p1).mono ?_
              rintro e wy ⟨lo9, hi9, w9, rfl, r9, hb9, hwy⟩
              have GY := (GZ.later hb9).next (k := k + 1) (.int .u64 lo9) (.int .u64 hi9) nb0 nb1
              have bly : Below w.heap.size w wy := by rw [hwy]; exact ((blz.trans (hb9.mono blz.size)).setCell (by simp; omega) _).setCell (by simp; omega) _
              rw [← hwy] at GY
              clear hwy
              go_wp2_with fail
              go_roundw
              case rel => exact ⟨k + 1, _, _, _, _, _, _, by go_num, by omega, GY, bly⟩
              case measure => simp [intOf]; omega
          · have hd2 : 1 ≤ d := by omega
            cases ba
            all_goals
              go_wp2_with fail
              refine (wMean_at _ lo2 hi2 (N + x) d G4.rep nn0 hd2 d1 _ lt6 t4 t5).mono ?_
              rintro e w7 ⟨xm, bm, rfl, ma, mx, mz, hb7⟩
              have G5 := G4.later hb7
              have bl7 := bl6.trans (hb7.mono bl6.size)
              have t6 := G5.s0
              have t7 := G5.s1
              go_wp2_with fail
              refine (rMean_any ny _ ly (N + x) d _ G5.big len2 hd2 d1).mono ?_
              rintro e w8 ⟨xr, br, rfl, ra, rx, hb8⟩
              have GZ := G5.later hb8
              have blz := bl7.trans (hb8.mono bl7.size)
              clear t4 t5 t6 t7
              have hbe : bm = br := by rw [Bool.eq_iff_iff]; exact ma.trans ra.symm
              subst hbe
              cases bm
              · have hxm : xm = 0 := mz rfl
                subst hxm
                clear ma mx mz ra rx
                go_wp2_with fail
                refine (wAdd_at wr.heap.size lo hi N 1 wi.rep (by decide) (by decide) (by omega) (by omega) _ GZ.z2 GZ.o0 GZ.o1 GZ.p0 GZ.p1).mono ?_
                rintro e wy ⟨lo9, hi9, w9, rfl, r9, hb9, hwy⟩
                have GY := (GZ.later hb9).next (k := k + 1) (.int .u64 lo9) (.int .u64 hi9) nb0 nb1
                have bly : Below w.heap.size w wy := by rw [hwy]; exact ((blz.trans (hb9.mono blz.size)).setCell (by simp; omega) _).setCell (by simp; omega) _
                rw [← hwy] at GY
                clear hwy
                go_wp2_with fail
                go_roundw
                case rel => exact ⟨k + 1, _, _, _, _, _, _, by go_num, by omega, GY, bly⟩
                case measure => simp [intOf]; omega
              · have hxm : xm = (N + x) / d := mx rfl
                have hxr : xr = (N + x) / d := rx rfl
                rw [← hxm] at hxr
                subst hxr
                clear ma mx mz ra rx hxm
                go_wp2_with fail
                refine (wAdd_at wr.heap.size lo hi N 1 wi.rep (by decide) (by decide) (by omega) (by omega) _ GZ.z2 GZ.o0 GZ.o1 GZ.p0 GZ.p1).mono ?_
                rintro e wy ⟨lo9, hi9, w9, rfl, r9, hb9, hwy⟩
                have GY := (GZ.later hb9).next (k := k + 1) (.int .u64 lo9) (.int .u64 hi9) nb0 nb1
                have bly : Below w.heap.size w wy := by rw [hwy]; exact ((blz.trans (hb9.mono blz.size)).setCell (by simp; omega) _).setCell (by simp; omega) _
                rw [← hwy] at GY
                clear hwy
                go_wp2_with fail
                go_roundw
                case rel => exact ⟨k + 1, _, _, _, _, _, _, by go_num, by omega, GY, bly⟩
                case measure => simp [intOf]; omega
      · skip
        go_wp2_with fail
        refine (wTake_at w1.heap.size lo hi N x wi.rep x0 x1 (by omega) (by omega) _ ltB0 G0.c0 G0.c1 G0.f0 G0.f1).mono ?_
        rintro e wp ⟨lo2, hi2, w2, rfl, r2, hb2, hwp⟩
        have G1 := (G0.later hb2).putW r2
        have bl1 : Below w.heap.size w wp := by rw [hwp]; exact ((bl0.trans (hb2.mono bl0.size)).setCell (by simp; omega) _).setCell (by simp; omega) _
        have v1 : wp.cell? ⟨b, off + k * 2 + 1, none⟩ = some (.int .i64 x) := (bl1.cell (p := ⟨b, off + k * 2 + 1, none⟩) hbw).trans q1
        rw [← hwp] at G1
        clear hwp hb2
        obtain ⟨asv, csv, hsv, _⟩ := G1.big.isD
        subst hsv
        have m0 := G1.s0
        have m1 := G1.s1
        have nb0 : -(((k + 1 : Nat) : Int) * 9223372036854775808) ≤ N - x := by omega
        have nb1 : N - x ≤ ((k + 1 : Nat) : Int) * 9223372036854775808 := by omega
        have nn0 : -170141183460469231731687303715884105728 < N - x := by omega
        have len1 := G1.big.len8 (by omega) (by omega)
        have len1 : l.length ≤ 500 := by omega
        go_wp2_with fail
        go_region_with (first | (go_at_call 35; refine (Of_any x x0 x1 _).mono ?_; rintro e w3 ⟨na, sa, la, rfl, va, hb3⟩; have GA := G1.later ((Below.refl _ _).drew.trans hb3); have za0 := GA.s0; have za1 := GA.s1) | (go_at_call 34; refine (Minus_any na sa la x _ va).mono ?_; rintro e w3b ⟨nx, sx, lx, rfl, vx, hb3b⟩; have GB := GA.later hb3b; have lenx := vx.len4 xn2 xn3; have z0 := GB.s0; have z1 := GB.s1) | (go_at_call 33; refine (Plus_any neg nx _ sx l lx N (-x) _ GB.big vx len1 lenx).mono ?_; rintro e w4 ⟨ny, sy, ly, rfl, vy, hb4⟩; have GC := GB.later hb4; have y0 := GC.s0; have y1 := GC.s1; have y2 := GC.g0; have y3 := GC.g1; have VY := vy; obtain ⟨ay, cy, rfl, _⟩ := vy.isD))
        all_goals
          have G2 := GC.putS VY
          have bl2 : Below w.heap.size w ((w4.setCell ⟨w1.heap.size + 1, 0, none⟩ (.bool ny)).setCell ⟨w1.heap.size + 1, 1, none⟩ (.slice ay ly.length cy)) := (((((bl1.drew).trans (hb3.mono bl1.size)).trans (hb3b.mono (Nat.le_trans bl1.size hb3.size))).trans (hb4.mono (Nat.le_trans (Nat.le_trans bl1.size hb3.size) hb3b.size))).setCell (by simp; omega) _).setCell (by simp; omega) _
          clear m0 m1 v1 y0 y1 y2 y3 z0 z1
          generalize ((w4.setCell ⟨w1.heap.size + 1, 0, none⟩ (.bool ny)).setCell ⟨w1.heap.size + 1, 1, none⟩ (.slice ay ly.length cy)) = wz at *
          have ltB : w1.heap.size < wz.heap.size := by have h1 := G2.z1; have h2 := G2.z2; omega
          have len2 := G2.big.len8 (by omega) (by omega)
          rw [show N + -x = N - x by omega] at G2
          have t0 := G2.c0
          have t1 := G2.c1
          go_wp2_with fail
          refine (wFit_tells _ lo2 hi2 (N - x) G2.rep _ ltB t0 t1).mono ?_
          rintro e w5 ⟨xa, ba, rfl, qa, qx, qz, hb5⟩
          have G3 := G2.later hb5
          have bl5 := bl2.trans (hb5.mono bl2.size)
          have lt5 : w1.heap.size < w5.heap.size := Nat.lt_of_lt_of_le ltB hb5.size
          clear t0 t1
          have t2 := G3.s0
          have t3 := G3.s1
          go_wp2_with fail
          refine (rFit_any ny _ ly (N - x) _ G3.big).mono ?_
          rintro e w6 ⟨xb, bb, rfl, rb, rx, hb6⟩
          have G4 := G3.later hb6
          have bl6 := bl5.trans (hb6.mono bl5.size)
          have lt6 : w1.heap.size < w6.heap.size := Nat.lt_of_lt_of_le lt5 hb6.size
          clear t2 t3
          obtain ⟨xc, hab, hax⟩ : ∃ xc, ba = bb ∧ xa = (if bb = true then xb else 0) ∧ xc = xa := by
            refine ⟨xa, ?_, ?_, rfl⟩
            · rw [Bool.eq_iff_iff]; exact qa.trans rb.symm
            · cases hbb : bb
              · rw [if_neg (by simp)]; exact qz (by cases hba : ba; rfl; exact absurd (rb.2 (qa.1 hba)) (by simp [hbb]))
              · rw [if_pos rfl, rx hbb]; exact qx (qa.2 (rb.1 hbb))
          obtain ⟨hax, _⟩ := hax
          subst hab
          subst hax
          clear qa qx qz rb rx
          have t4 := G4.c0
          have t5 := G4.c1
          have hq : ∀ y : Int, (y != y) = false := fun y => by simp
          by_cases hd1 : d < 1
          · cases ba
            all_goals
              go_wp2_with fail
              refine (wMean_none _ d hd1 _).mono ?_
              rintro e w7 ⟨rfl, hb7⟩
              have G5 := G4.later hb7
              have bl7 := bl6.trans (hb7.mono bl6.size)
              have t6 := G5.s0
              have t7 := G5.s1
              go_wp2_with fail
              refine (rMean_none ny _ ly (N - x) d _ G5.big hd1).mono ?_
              rintro e w8 ⟨rfl, hb8⟩
              have GZ := G5.later hb8
              have blz := bl7.trans (hb8.mono bl7.size)
              clear t4 t5 t6 t7
              go_wp2_with fail
              refine (wAdd_at wr.heap.size lo hi N 1 wi.rep (by decide) (by decide) (by omega) (by omega) _ GZ.z2 GZ.o0 GZ.o1 GZ.p0 GZ.p1).mono ?_
              rintro e wy ⟨lo9, hi9, w9, rfl, r9, hb9, hwy⟩
              have GY := (GZ.later hb9).next (k := k + 1) (.int .u64 lo9) (.int .u64 hi9) nb0 nb1
              have bly : Below w.heap.size w wy := by rw [hwy]; exact ((blz.trans (hb9.mono blz.size)).setCell (by simp; omega) _).setCell (by simp; omega) _
              rw [← hwy] at GY
              clear hwy
              go_wp2_with fail
              go_roundw
              case rel => exact ⟨k + 1, _, _, _, _, _, _, by go_num, by omega, GY, bly⟩
              case measure => simp [intOf]; omega
          · have hd2 : 1 ≤ d := by omega
            cases ba
            all_goals
              go_wp2_with fail
              refine (wMean_at _ lo2 hi2 (N - x) d G4.rep nn0 hd2 d1 _ lt6 t4 t5).mono ?_
              rintro e w7 ⟨xm, bm, rfl, ma, mx, mz, hb7⟩
              have G5 := G4.later hb7
              have bl7 := bl6.trans (hb7.mono bl6.size)
              have t6 := G5.s0
              have t7 := G5.s1
              go_wp2_with fail
              refine (rMean_any ny _ ly (N - x) d _ G5.big len2 hd2 d1).mono ?_
              rintro e w8 ⟨xr, br, rfl, ra, rx, hb8⟩
              have GZ := G5.later hb8
              have blz := bl7.trans (hb8.mono bl7.size)
              clear t4 t5 t6 t7
              have hbe : bm = br := by rw [Bool.eq_iff_iff]; exact ma.trans ra.symm
              subst hbe
              cases bm
              · have hxm : xm = 0 := mz rfl
                subst hxm
                clear ma mx mz ra rx
                go_wp2_with fail
                refine (wAdd_at wr.heap.size lo hi N 1 wi.rep (by decide) (by decide) (by omega) (by omega) _ GZ.z2 GZ.o0 GZ.o1 GZ.p0 GZ.p1).mono ?_
                rintro e wy ⟨lo9, hi9, w9, rfl, r9, hb9, hwy⟩
                have GY := (GZ.later hb9).next (k := k + 1) (.int .u64 lo9) (.int .u64 hi9) nb0 nb1
                have bly : Below w.heap.size w wy := by rw [hwy]; exact ((blz.trans (hb9.mono blz.size)).setCell (by simp; omega) _).setCell (by simp; omega) _
                rw [← hwy] at GY
                clear hwy
                go_wp2_with fail
                go_roundw
                case rel => exact ⟨k + 1, _, _, _, _, _, _, by go_num, by omega, GY, bly⟩
                case measure => simp [intOf]; omega
              · have hxm : xm = (N - x) / d := mx rfl
                have hxr : xr = (N - x) / d := rx rfl
                rw [← hxm] at hxr
                subst hxr
                clear ma mx mz ra rx hxm
                go_wp2_with fail
                refine (wAdd_at wr.heap.size lo hi N 1 wi.rep (by decide) (by decide) (by omega) (by omega) _ GZ.z2 GZ.o0 GZ.o1 GZ.p0 GZ.p1).mono ?_
                rintro e wy ⟨lo9, hi9, w9, rfl, r9, hb9, hwy⟩
                have GY := (GZ.later hb9).next (k := k + 1) (.int .u64 lo9) (.int .u64 hi9) nb0 nb1
                have bly : Below w.heap.size w wy := by rw [hwy]; exact ((blz.trans (hb9.mono blz.size)).setCell (by simp; omega) _).setCell (by simp; omega) _
                rw [← hwy] at GY
                clear hwy
                go_wp2_with fail
                go_roundw
                case rel => exact ⟨k + 1, _, _, _, _, _, _, by go_num, by omega, GY, bly⟩
                case measure => simp [intOf]; omega
    · clear hp
      go_wp2_with fail
      go_ret
      exact ⟨rfl, bl⟩
end Go.Proofs.Ytbmdocdcinfbfaa

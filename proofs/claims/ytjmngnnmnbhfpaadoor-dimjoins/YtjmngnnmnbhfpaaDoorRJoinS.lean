/- The document's Join of dimensions (package capstanref02): the differences of exponents. -/
import Derived.Test.YtjmngnnmnbhfpaaDoorRJoin
namespace Go.Proofs.YtjmngnnmnbhfpaaDoor
open Go.RowKit

set_option maxHeartbeats 8000000 in
theorem rJoin_sub (x y : D5) (fx : x.Fits) (fy : y.Fits) (w : World) :
    Calls Tryd.prog 16 #[dimV x, dimV y, .int .i64 (-1)] w fun e w' => e = .returned (joinV (joinS (· - ·) x y)) ∧ Below w.heap.size w w' := by
  obtain ⟨xb, yb, ob, rb, l0⟩ := four_boxes w 24 24 24 24 (dCells x) (dCells y) [.int .i64 0, .int .i64 0, .int .i64 0, .int .i64 0, .int .i64 0] [.int .i64 0, .int .i64 0, .int .i64 0, .int .i64 0, .int .i64 0]
  go_enter Tryd.func16, Tryd.ntmps16
  go_wp2_with fail
  go_loopw [9] (fun i wr => ∃ k : Nat, i = .int .i64 k ∧ k ≤ 5 ∧ (∀ j, j < k → In8 ((joinR (· - ·) x y).at j)) ∧ JS w.heap.size x y (outL (joinR (· - ·) x y) k) w wr) (fun i _ => 5 - (intOf i).toNat)
  case atStart => exact ⟨0, rfl, by decide, by omega, ⟨xb, yb, ob, rb, l0, Nat.le_refl _⟩⟩
  case round =>
    clear xb yb ob rb l0
    obtain ⟨k, rfl, hk, hin, js⟩ := hrel
    have HIN : Hid _ := hin
    clear hin
    by_cases hlt : k < 5
    · have hxk := cells_at x k hlt
      have hyk := cells_at y k hlt
      have bx := fits_at x fx k
      have by_ := fits_at y fy k
      have hr := joinR_at (· - ·) x y k
      have hs := outL_set (joinR (· - ·) x y) k hlt
      have hno := joinS_no (· - ·) x y k
      have hnew : In8 ((joinR (· - ·) x y).at k) → ∀ j, j < k + 1 → In8 ((joinR (· - ·) x y).at j) := fun h j hj => by
        by_cases e : j = k
        · rw [e]; exact h
        · exact HIN.out j (by omega)
      have hrl : k < (outL (joinR (· - ·) x y) k).length := by rw [outL_length]; exact hlt
      have hzero : ∃ z, (outL (joinR (· - ·) x y) k)[k]? = some z := ⟨_, List.getElem?_eq_getElem hrl⟩
      obtain ⟨z, hz⟩ := hzero
      have HNEW : Hid _ := hnew
      clear hnew
      rw [hr] at hs hno
      have HR : Hid _ := hr
      clear hr
      have hA := fun wx => Of_any (x.at k) bx.1 bx.2 wx
      have hB := fun wx => Of_any (y.at k) by_.1 by_.2 wx
      generalize hxx : x.at k = xk at *
      generalize hyy : y.at k = yk at *
      have HXX : Hid _ := hxx
      have HYY : Hid _ := hyy
      clear hxx hyy
      have xa0 : -18446744073709551616 < xk := by omega
      have xa1 : xk < 18446744073709551616 := by omega
      have ya0 : -18446744073709551616 < yk := by omega
      have ya1 : yk < 18446744073709551616 := by omega
      have za0 : -18446744073709551616 < -yk := by omega
      have za1 : -yk < 18446744073709551616 := by omega
      have m0 := js.x.cell k _ hxk
      have m1 := js.y.cell k _ hyk
      have m2 := js.atx hxk
      have m3 := js.aty hyk
      have jsz := js.r.lt
      have k1 : (k : Int) < 5 := by omega
      have HS : Hid _ := hs
      have HNO : Hid _ := hno
      have HZ : Hid _ := hz
      clear hs hno hrl hz
      go_upto_region 5 with fail
      go_cut [10] from 12 to 48 (fun s10 wc => ∃ (g : Nat) (nc : Bool) (sc : Value) (lc : List Int), s10 = .pointer (some ⟨g, 0, none⟩) ∧ Box wc g [.bool nc, sc] ∧ BigV wc nc sc lc (xk + yk) ∧ JS w.heap.size x y (outL (joinR (· - ·) x y) k) w wc ∧ w.heap.size + 1 + 1 + 1 < g)
      case first =>
        go_region_with (first
          | (go_at_call 32; first | ((with_reducible refine (hA _).mono ?_); rintro e wa ⟨na, sa, la, rfl, va, hba⟩; (first | have js := js.next hba | have js := js.next (b1 hba) | have js := js.next (b2 hba) | have js := js.next (b3 hba)); (first | have cb := cb.next hba | have cb := cb.next (b1 hba) | have cb := (Box.new2 _ (.bool false) (.slice none 0 0) 66).next hba | have cb := (Box.new2 _ (.bool false) (.slice none 0 0) 66).next (b1 hba) | skip); have m0 := js.x.cell k _ hxk; have m1 := js.y.cell k _ hyk; have m2 := js.atx hxk; have m3 := js.aty hyk; have jsz := js.r.lt; have ka := va.len4 xa0 xa1; (first | have vb := vb.later hba | have vb := vb.later (b1 hba) | have vb := vb.later (b2 hba) | have vb := vb.later (b3 hba) | skip); (first | have vm := vm.later hba | have vm := vm.later (b1 hba) | have vm := vm.later (b2 hba) | have vm := vm.later (b3 hba) | skip); clear hba) | ((with_reducible refine (hB _).mono ?_); rintro e wb ⟨nb, sb, lb, rfl, vb, hbb⟩; (first | have js := js.next hbb | have js := js.next (b1 hbb) | have js := js.next (b2 hbb) | have js := js.next (b3 hbb)); (first | have cb := cb.next hbb | have cb := cb.next (b1 hbb) | have cb := (Box.new2 _ (.bool false) (.slice none 0 0) 66).next hbb | have cb := (Box.new2 _ (.bool false) (.slice none 0 0) 66).next (b1 hbb) | skip); have m0 := js.x.cell k _ hxk; have m1 := js.y.cell k _ hyk; have m2 := js.atx hxk; have m3 := js.aty hyk; have jsz := js.r.lt; have kb := vb.len4 ya0 ya1; (first | have va := va.later hbb | have va := va.later (b1 hbb) | have va := va.later (b2 hbb) | have va := va.later (b3 hbb) | skip); clear hbb))
          | (go_at_call 31; refine (Plus_any na nb sa sb la lb xk yk _ (by first | exact va | exact va.later ((Below.refl _ _).alloc (Nat.le_refl _) _)) (by first | exact vb | exact vb.later ((Below.refl _ _).alloc (Nat.le_refl _) _)) (by omega) (by omega)).mono ?_; rintro e wc ⟨nc, sc, lc, rfl, vc, hbc⟩; (first | have js := js.next hbc | have js := js.next (b1 hbc) | have js := js.next (b2 hbc) | have js := js.next (b3 hbc)); (first | have cb := cb.next hbc | have cb := cb.next (b1 hbc) | have cb := (Box.new2 _ (.bool false) (.slice none 0 0) 66).next hbc | have cb := (Box.new2 _ (.bool false) (.slice none 0 0) 66).next (b1 hbc) | skip); have m0 := js.x.cell k _ hxk; have m1 := js.y.cell k _ hyk; have m2 := js.atx hxk; have m3 := js.aty hyk; have jsz := js.r.lt; obtain ⟨ac, cc, rfl, _⟩ := vc.isD; clear hbc; (try obtain ⟨c0, c1, c2, c3⟩ := cb.two)))
        all_goals
          go_wp2_with fail
          go_meet
          first
            | exact ⟨_, _, _, _, rfl, Box.new2 _ _ _ _, vc.later ((Below.refl _ _).alloc (Nat.le_refl _) _), js.next ((Below.refl _ _).alloc (Nat.le_refl _) _), js.r.lt⟩
            | exact ⟨_, _, _, _, rfl, cb.put_two _ _, (vc.put c0 (by intro i h; cases h)).put ((World.cell?_setCell_other _ _ _ _ (by simp)).trans c1) (by intro i h; cases h), (js.put (by omega)).put (by omega), by omega⟩
      case rest =>
        obtain ⟨g, nc, sc, lc, rfl, cb, vc, js, hg⟩ := hcut
        clear m0 m1 m2 m3 jsz
        obtain ⟨ac, cc, hsc, _⟩ := vc.isD
        subst hsc
        obtain ⟨c0, c1, c2, c3⟩ := cb.two
        have m0 := js.x.cell k _ hxk
        have m1 := js.y.cell k _ hyk
        have m2 := js.atx hxk
        have m3 := js.aty hyk
        have jsz := js.r.lt
        obtain ⟨N, hN⟩ : ∃ N, N = xk - yk := ⟨_, rfl⟩
        rw [← hN] at HS HNO HR
        have HNN : Hid _ := hN
        clear hN
        go_upto_region 7 with fail
        go_cut [10] from 12 to 48 (fun s10 wc => ∃ (g : Nat) (nc : Bool) (sc : Value) (lc : List Int), s10 = .pointer (some ⟨g, 0, none⟩) ∧ Box wc g [.bool nc, sc] ∧ BigV wc nc sc lc N ∧ JS w.heap.size x y (outL (joinR (· - ·) x y) k) w wc ∧ w.heap.size + 1 + 1 + 1 < g)
        case first =>
          clear vc
          go_region_with (first
            | (go_at_call 32; first | ((with_reducible refine (hA _).mono ?_); rintro e wa ⟨na, sa, la, rfl, va, hba⟩; (first | have js := js.next hba | have js := js.next (b1 hba) | have js := js.next (b2 hba) | have js := js.next (b3 hba)); (first | have cb := cb.next hba | have cb := cb.next (b1 hba) | have cb := (Box.new2 _ (.bool false) (.slice none 0 0) 66).next hba | have cb := (Box.new2 _ (.bool false) (.slice none 0 0) 66).next (b1 hba) | skip); have m0 := js.x.cell k _ hxk; have m1 := js.y.cell k _ hyk; have m2 := js.atx hxk; have m3 := js.aty hyk; have jsz := js.r.lt; have ka := va.len4 xa0 xa1; (first | have vb := vb.later hba | have vb := vb.later (b1 hba) | have vb := vb.later (b2 hba) | have vb := vb.later (b3 hba) | skip); (first | have vm := vm.later hba | have vm := vm.later (b1 hba) | have vm := vm.later (b2 hba) | have vm := vm.later (b3 hba) | skip); clear hba) | ((with_reducible refine (hB _).mono ?_); rintro e wb ⟨nb, sb, lb, rfl, vb, hbb⟩; (first | have js := js.next hbb | have js := js.next (b1 hbb) | have js := js.next (b2 hbb) | have js := js.next (b3 hbb)); (first | have cb := cb.next hbb | have cb := cb.next (b1 hbb) | have cb := (Box.new2 _ (.bool false) (.slice none 0 0) 66).next hbb | have cb := (Box.new2 _ (.bool false) (.slice none 0 0) 66).next (b1 hbb) | skip); have m0 := js.x.cell k _ hxk; have m1 := js.y.cell k _ hyk; have m2 := js.atx hxk; have m3 := js.aty hyk; have jsz := js.r.lt; have kb := vb.len4 ya0 ya1; (first | have va := va.later hbb | have va := va.later (b1 hbb) | have va := va.later (b2 hbb) | have va := va.later (b3 hbb) | skip); clear hbb))
            | (go_at_call 33; refine (Minus_any nb sb lb yk _ vb).mono ?_; rintro e wm ⟨nm, sm, lm, rfl, vm, hbm⟩; (first | have js := js.next hbm | have js := js.next (b1 hbm) | have js := js.next (b2 hbm) | have js := js.next (b3 hbm)); (first | have cb := cb.next hbm | have cb := cb.next (b1 hbm) | have cb := (Box.new2 _ (.bool false) (.slice none 0 0) 66).next hbm | have cb := (Box.new2 _ (.bool false) (.slice none 0 0) 66).next (b1 hbm) | skip); have m0 := js.x.cell k _ hxk; have m1 := js.y.cell k _ hyk; have m2 := js.atx hxk; have m3 := js.aty hyk; have jsz := js.r.lt; have km := vm.len4 za0 za1; (first | have va := va.later hbm | have va := va.later (b1 hbm) | have va := va.later (b2 hbm) | have va := va.later (b3 hbm) | skip); clear hbm)
            | (go_at_call 31; refine (Plus_any na nm sa sm la lm xk (-yk) _ va vm (by omega) (by omega)).mono ?_; rintro e wq ⟨nq, sq, lq, rfl, vq, hbq⟩; (first | have js := js.next hbq | have js := js.next (b1 hbq) | have js := js.next (b2 hbq) | have js := js.next (b3 hbq)); (first | have cb := cb.next hbq | have cb := cb.next (b1 hbq) | have cb := (Box.new2 _ (.bool false) (.slice none 0 0) 66).next hbq | have cb := (Box.new2 _ (.bool false) (.slice none 0 0) 66).next (b1 hbq) | skip); have m0 := js.x.cell k _ hxk; have m1 := js.y.cell k _ hyk; have m2 := js.atx hxk; have m3 := js.aty hyk; have jsz := js.r.lt; obtain ⟨aq, cq, rfl, _⟩ := vq.isD; obtain ⟨d0, d1, d2, d3⟩ := cb.two; clear hbq))
          all_goals
            go_wp2_with fail
            go_meet
            exact ⟨_, _, _, _, rfl, cb.put_two _ _, ((vq.put d0 (by intro i h; cases h)).put ((World.cell?_setCell_other _ _ _ _ (by simp)).trans d1) (by intro i h; cases h)).cast (by have := HNN.out; omega), (js.put (by omega)).put (by omega), by omega⟩
        case rest =>
        clear m0 m1 m2 m3 jsz c0 c1 c2 c3 cb vc js hg
        obtain ⟨g, nc, sc, lc, rfl, cb, vc, js, hg⟩ := hcut
        obtain ⟨ac, cc, hsc, _⟩ := vc.isD
        subst hsc
        obtain ⟨c0, c1, c2, c3⟩ := cb.two
        have jsz := js.r.lt
        have hH := rheld_bds N
        have rk0 := js.r.cell k _ HZ.out
        have rk1 := js.r.free k (by rw [outL_length]; omega)
        by_cases hi : In8 N
        · have e1 := rheld_in8 N hi
          have e2 : ¬ 8 < N := by have := hi.2; omega
          have e3 : ¬ N < -8 := by have := hi.1; omega
          have w0 : -9223372036854775808 ≤ N := by omega
          have w1 : N ≤ 9223372036854775807 := by omega
          have HI : Hid _ := hi
          clear hi
          go_wp2_with fail
          refine (rHeld_any nc _ lc N _ vc).mono ?_
          rw [e1]
          rintro e wh ⟨rfl, hbh⟩
          have js := js.next hbh
          have rk0 := js.r.cell k _ HZ.out
          have rk1 := js.r.free k (by rw [outL_length]; omega)
          have jr := js.r.set k (by rw [outL_length]; omega) (.int .i64 N)
          rw [HS.out] at jr
          have JJ : Hid (JS w.heap.size x y (outL (joinR (· - ·) x y) (k + 1)) w (wh.setCell ⟨w.heap.size + 1 + 1 + 1, k, none⟩ (.int .i64 N))) := ⟨js.x.other (by omega), js.y.other (by omega), js.o.other (by omega), jr, js.bl.setCell (by simp; omega) _, js.sz⟩
          clear hbh jr
          go_wp2_with fail
          go_roundw
          case rel =>
            exact ⟨k + 1, by go_num, by omega, HNEW.out (by rw [HR.out]; exact HI.out), JJ.out⟩
          case measure => simp [intOf]; omega
        · have e1 := rheld_out8 N hi
          have NS : Hid _ := HNO.out hi
          clear hi
          generalize hHH : rheld N = H at *
          have HH : Hid _ := hHH
          clear hHH
          rcases e1 with e1 | ⟨e1, e2⟩
          all_goals
            go_wp2_with fail
            refine (rHeld_any nc _ lc N _ vc).mono ?_
            rw [HH.out]
            rintro e wh ⟨rfl, hbh⟩
            have js := js.next hbh
            obtain ⟨o0, o1, o2, o3, o4, o5, o6, o7, o8, o9⟩ := js.o.five
            have bl := js.bl
            clear hbh js
            go_wp2_with fail
            refine bodyPost_ret (v := joinV none) (by simp [results, Tryd.results16, go_sem, joinV, dim0, o0, o1, o2, o3, o4]) rfl ⟨by rw [NS.out], ?_⟩
            exact below_five bl (by omega) _ _ _ _ _
    · obtain rfl : k = 5 := by omega
      have NS : Hid _ := joinS_yes (· - ·) x y (fun j hj => HIN.out j hj)
      generalize joinR (· - ·) x y = R at *
      obtain ⟨o0, o1, o2, o3, o4, o5, o6, o7, o8, o9⟩ := js.o.five
      have jr : Box wr (w.heap.size + 1 + 1 + 1) (dCells R) := js.r
      obtain ⟨r0, r1, r2, r3, r4, r5, r6, r7, r8, r9⟩ := jr.five
      have bl := js.bl
      clear jr js
      go_wp2_with fail
      refine bodyPost_ret (v := .tuple #[dimV R, .bool true]) (by simp [results, Tryd.results16, go_sem, o0, o1, o2, o3, o4]) rfl ⟨by rw [NS.out]; rfl, ?_⟩
      exact below_five bl (by omega) _ _ _ _ _

end Go.Proofs.YtjmngnnmnbhfpaaDoor

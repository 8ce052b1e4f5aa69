/- The document's Join of dimensions (package capstanref02): the sums and the differences of exponents. -/
import Derived.Test.YtjmngnnmnbhfpaaDoorGroup
import Derived.Test.YtjmngnnmnbhfpaaDoorRef5D
import Derived.Deep.RegionWith
import Derived.Deep.CutRange
import Derived.OpenShut
namespace Go.Proofs.YtjmngnnmnbhfpaaDoor
open Go.RowKit

def D5.at (x : D5) : Nat → Int
  | 0 => x.a
  | 1 => x.b
  | 2 => x.c
  | 3 => x.d
  | _ => x.e
def outL (r : D5) : Nat → List Value
  | 0 => [.int .i64 0, .int .i64 0, .int .i64 0, .int .i64 0, .int .i64 0]
  | 1 => [.int .i64 r.a, .int .i64 0, .int .i64 0, .int .i64 0, .int .i64 0]
  | 2 => [.int .i64 r.a, .int .i64 r.b, .int .i64 0, .int .i64 0, .int .i64 0]
  | 3 => [.int .i64 r.a, .int .i64 r.b, .int .i64 r.c, .int .i64 0, .int .i64 0]
  | 4 => [.int .i64 r.a, .int .i64 r.b, .int .i64 r.c, .int .i64 r.d, .int .i64 0]
  | _ => dCells r
theorem outL_length (r : D5) (k : Nat) : (outL r k).length = 5 := by unfold outL; split <;> rfl
theorem outL_set (r : D5) (k : Nat) (h : k < 5) : (outL r k).set k (.int .i64 (r.at k)) = outL r (k + 1) := by
  rcases (show k = 0 ∨ k = 1 ∨ k = 2 ∨ k = 3 ∨ k = 4 by omega) with rfl | rfl | rfl | rfl | rfl <;> rfl
theorem cells_at (x : D5) (k : Nat) (h : k < 5) : (dCells x)[k]? = some (.int .i64 (x.at k)) := by
  rcases (show k = 0 ∨ k = 1 ∨ k = 2 ∨ k = 3 ∨ k = 4 by omega) with rfl | rfl | rfl | rfl | rfl <;> rfl
theorem fits_at (x : D5) (h : x.Fits) (k : Nat) : -9223372036854775808 ≤ x.at k ∧ x.at k < 9223372036854775808 := by
  unfold D5.at
  split
  · exact ⟨h.a0, h.a1⟩
  · exact ⟨h.b0, h.b1⟩
  · exact ⟨h.c0, h.c1⟩
  · exact ⟨h.d0, h.d1⟩
  · exact ⟨h.e0, h.e1⟩
def joinR (f : Int → Int → Int) (x y : D5) : D5 := ⟨f x.a y.a, f x.b y.b, f x.c y.c, f x.d y.d, f x.e y.e⟩
theorem joinR_at (f : Int → Int → Int) (x y : D5) (k : Nat) : (joinR f x y).at k = f (x.at k) (y.at k) := by
  unfold D5.at joinR
  split <;> rfl
theorem joinS_no (f : Int → Int → Int) (x y : D5) (k : Nat) (h : ¬ In8 ((joinR f x y).at k)) : joinS f x y = none := by
  unfold D5.at joinR at h
  split at h
  · exact joinS_none0 f x y h
  · exact joinS_none1 f x y h
  · exact joinS_none2 f x y h
  · exact joinS_none3 f x y h
  · exact joinS_none4 f x y h
theorem joinS_yes (f : Int → Int → Int) (x y : D5) (h : ∀ j, j < 5 → In8 ((joinR f x y).at j)) : joinS f x y = some (joinR f x y) :=
  joinS_some f x y ⟨h 0 (by decide), h 1 (by decide), h 2 (by decide), h 3 (by decide), h 4 (by decide)⟩
theorem rheld_in8 (n : Int) (h : In8 n) : rheld n = n := held_in8 n h
theorem rheld_out8 (n : Int) (h : ¬ In8 n) : 8 < rheld n ∨ (¬ 8 < rheld n ∧ rheld n < -8) := held_out8 n h
theorem rheld_bds (n : Int) : -9223372036854775808 ≤ rheld n ∧ rheld n ≤ 9223372036854775807 := held_bd n

theorem four_boxes (w : World) (t0 t1 t2 t3 : TypeId) (xs ys zs us : List Value) :
    Box ((((w.alloc (.cells xs.toArray t0)).alloc (.cells ys.toArray t1)).alloc (.cells zs.toArray t2)).alloc (.cells us.toArray t3)) w.heap.size xs ∧ Box ((((w.alloc (.cells xs.toArray t0)).alloc (.cells ys.toArray t1)).alloc (.cells zs.toArray t2)).alloc (.cells us.toArray t3)) (w.heap.size + 1) ys ∧
      Box ((((w.alloc (.cells xs.toArray t0)).alloc (.cells ys.toArray t1)).alloc (.cells zs.toArray t2)).alloc (.cells us.toArray t3)) (w.heap.size + 1 + 1) zs ∧ Box ((((w.alloc (.cells xs.toArray t0)).alloc (.cells ys.toArray t1)).alloc (.cells zs.toArray t2)).alloc (.cells us.toArray t3)) (w.heap.size + 1 + 1 + 1) us ∧
      Below w.heap.size w ((((w.alloc (.cells xs.toArray t0)).alloc (.cells ys.toArray t1)).alloc (.cells zs.toArray t2)).alloc (.cells us.toArray t3)) := by
  obtain ⟨h1, h2, h3, h4⟩ := three_boxes w t0 t1 t2 xs ys zs
  have e := Box.new (((w.alloc (.cells xs.toArray t0)).alloc (.cells ys.toArray t1)).alloc (.cells zs.toArray t2)) us t3
  refine ⟨h1.next ((Below.refl _ _).alloc (Nat.le_refl _) _), h2.next ((Below.refl _ _).alloc (Nat.le_refl _) _), h3.next ((Below.refl _ _).alloc (Nat.le_refl _) _), by simpa using e, h4.alloc (by simp; omega) _⟩

/-- What the document's Join finds in memory. -/
structure JS (B : Nat) (x y : D5) (out : List Value) (w wr : World) : Prop where
  x : Box wr B (dCells x)
  y : Box wr (B + 1) (dCells y)
  o : Box wr (B + 1 + 1) [.int .i64 0, .int .i64 0, .int .i64 0, .int .i64 0, .int .i64 0]
  r : Box wr (B + 1 + 1 + 1) out
  bl : Below B w wr
  sz : B ≤ w.heap.size
theorem JS.next {B : Nat} {x y : D5} {out : List Value} {w wr w' : World} (h : JS B x y out w wr) (hb : Below wr.heap.size wr w') : JS B x y out w w' :=
  ⟨h.x.next hb, h.y.next hb, h.o.next hb, h.r.next hb, h.bl.trans (hb.mono (Nat.le_trans h.sz h.bl.size)), h.sz⟩
theorem JS.atx {B : Nat} {x y : D5} {out : List Value} {w wr : World} {k : Nat} {v : Value} (h : JS B x y out w wr) (hk : (dCells x)[k]? = some v) (o : Obj) : (wr.alloc o).cell? ⟨B, k, none⟩ = some v := (h.next ((Below.refl _ _).alloc (Nat.le_refl _) o)).x.cell k _ hk
theorem JS.aty {B : Nat} {x y : D5} {out : List Value} {w wr : World} {k : Nat} {v : Value} (h : JS B x y out w wr) (hk : (dCells y)[k]? = some v) (o : Obj) : (wr.alloc o).cell? ⟨B + 1, k, none⟩ = some v := (h.next ((Below.refl _ _).alloc (Nat.le_refl _) o)).y.cell k _ hk
theorem JS.put {B g j : Nat} {x y : D5} {out : List Value} {w wr : World} {v : Value} (h : JS B x y out w wr) (hg : B + 1 + 1 + 1 < g) : JS B x y out w (wr.setCell ⟨g, j, none⟩ v) :=
  ⟨h.x.other (by omega), h.y.other (by omega), h.o.other (by omega), h.r.other (by omega), h.bl.setCell (by simp; omega) _, h.sz⟩
theorem BigV.cast {w : World} {neg : Bool} {s : Value} {l : List Int} {n m : Int} (h : BigV w neg s l n) (e : n = m) : BigV w neg s l m := e ▸ h
theorem BigV.put {w : World} {neg : Bool} {s : Value} {l : List Int} {n : Int} {g j : Nat} {u v : Value} (h : BigV w neg s l n) (hc : w.cell? ⟨g, j, none⟩ = some u) (hu : ∀ i, u ≠ .int .i64 i) : BigV (w.setCell ⟨g, j, none⟩ v) neg s l n := by
  obtain ⟨⟨a, c, rfl, q1, q2, q3, hA⟩, h2, h3, h4⟩ := h
  refine ⟨⟨a, c, rfl, q1, q2, q3, ?_⟩, h2, h3, h4⟩
  rcases hA with hA | ⟨b, off, rfl, h5, h6⟩
  · exact .inl hA
  · refine .inr ⟨b, off, rfl, by simpa using h5, fun i hi => ?_⟩
    have e := h6 i hi
    rw [World.cell?_setCell_other _ _ _ _ (by intro e'; cases e'; rw [hc] at e; cases e; exact hu _ rfl)]
    exact e
theorem b1 {W w' : World} (hb : Below W.drew.heap.size W.drew w') : Below W.heap.size W w' := (Below.refl _ _).drew.trans hb
theorem b2 {W w' : World} {o : Obj} (hb : Below (W.alloc o).heap.size (W.alloc o) w') : Below W.heap.size W w' := ((Below.refl _ _).alloc (Nat.le_refl _) o).trans (hb.mono (by simp))
theorem b3 {W w' : World} {o : Obj} (hb : Below (W.alloc o).drew.heap.size (W.alloc o).drew w') : Below W.heap.size W w' := b2 (b1 hb)
theorem Box.two {w : World} {g : Nat} {v0 v1 : Value} (h : Box w g [v0, v1]) : w.cell? ⟨g, 0, none⟩ = some v0 ∧ w.cell? ⟨g, 1, none⟩ = some v1 ∧ w.frozen? ⟨g, 0, none⟩ = false ∧ w.frozen? ⟨g, 1, none⟩ = false :=
  ⟨h.cell 0 _ rfl, h.cell 1 _ rfl, h.free 0 (by simp), h.free 1 (by simp)⟩
theorem Box.put_two {w : World} {g : Nat} {u0 u1 : Value} (h : Box w g [u0, u1]) (v0 v1 : Value) : Box ((w.setCell ⟨g, 0, none⟩ v0).setCell ⟨g, 1, none⟩ v1) g [v0, v1] := (h.set 0 (by simp) v0).set 1 (by simp) v1
theorem Box.new2 (w : World) (v0 v1 : Value) (t : TypeId) : Box (w.alloc (.cells #[v0, v1] t)) w.heap.size [v0, v1] := Box.new w [v0, v1] t

set_option maxHeartbeats 8000000 in
theorem rJoin_add (x y : D5) (fx : x.Fits) (fy : y.Fits) (w : World) :
    Calls Tryd.prog 16 #[dimV x, dimV y, .int .i64 1] w fun e w' => e = .returned (joinV (joinS (· + ·) x y)) ∧ Below w.heap.size w w' := by
  obtain ⟨xb, yb, ob, rb, l0⟩ := four_boxes w 24 24 24 24 (dCells x) (dCells y) [.int .i64 0, .int .i64 0, .int .i64 0, .int .i64 0, .int .i64 0] [.int .i64 0, .int .i64 0, .int .i64 0, .int .i64 0, .int .i64 0]
  go_enter Tryd.func16, Tryd.ntmps16
  go_wp2_with fail
  go_loopw [9] (fun i wr => ∃ k : Nat, i = .int .i64 k ∧ k ≤ 5 ∧ (∀ j, j < k → In8 ((joinR (· + ·) x y).at j)) ∧ JS w.heap.size x y (outL (joinR (· + ·) x y) k) w wr) (fun i _ => 5 - (intOf i).toNat)
  case atStart => exact ⟨0, rfl, by decide, by omega, ⟨xb, yb, ob, rb, l0, Nat.le_refl _⟩⟩
  case round =>
    clear xb yb ob rb l0
    obtain ⟨k, rfl, hk, hin, js⟩ := hrel
    have HIN : Hid _ := hin
    clear hin
    by_cases hlt : k < 5
    · have hxk := cells_at x k hlt
      have hyk := cells_at y k hlt
      have bx := fits_at x fx k
      have by_ := fits_at y fy k
      have hr := joinR_at (· + ·) x y k
      have hs := outL_set (joinR (· + ·) x y) k hlt
      have hno := joinS_no (· + ·) x y k
      have hnew : In8 ((joinR (· + ·) x y).at k) → ∀ j, j < k + 1 → In8 ((joinR (· + ·) x y).at j) := fun h j hj => by
        by_cases e : j = k
        · rw [e]; exact h
        · exact HIN.out j (by omega)
      have hrl : k < (outL (joinR (· + ·) x y) k).length := by rw [outL_length]; exact hlt
      have hzero : ∃ z, (outL (joinR (· + ·) x y) k)[k]? = some z := ⟨_, List.getElem?_eq_getElem hrl⟩
      obtain ⟨z, hz⟩ := hzero
      have HNEW : Hid _ := hnew
      clear hnew
      rw [hr] at hs hno
      have HR : Hid _ := hr
      clear hr
      have hA := fun wx => Of_any (x.at k) bx.1 bx.2 wx
      have hB := fun wx => Of_any (y.at k) by_.1 by_.2 wx
      generalize hxx : x.at k = xk at *
      generalize hyy : y.at k = yk at *
      have HXX : Hid _ := hxx
      have HYY : Hid _ := hyy
      clear hxx hyy
      have xa0 : -18446744073709551616 < xk := by omega
      have xa1 : xk < 18446744073709551616 := by omega
      have ya0 : -18446744073709551616 < yk := by omega
      have ya1 : yk < 18446744073709551616 := by omega
      have za0 : -18446744073709551616 < -yk := by omega
      have za1 : -yk < 18446744073709551616 := by omega
      have m0 := js.x.cell k _ hxk
      have m1 := js.y.cell k _ hyk
      have m2 := js.atx hxk
      have m3 := js.aty hyk
      have jsz := js.r.lt
      have k1 : (k : Int) < 5 := by omega
      have HS : Hid _ := hs
      have HNO : Hid _ := hno
      have HZ : Hid _ := hz
      clear hs hno hrl hz
      go_upto_region 5 with fail
      go_cut [10] from 12 to 48 (fun s10 wc => ∃ (g : Nat) (nc : Bool) (sc : Value) (lc : List Int), s10 = .pointer (some ⟨g, 0, none⟩) ∧ Box wc g [.bool nc, sc] ∧ BigV wc nc sc lc (xk + yk) ∧ JS w.heap.size x y (outL (joinR (· + ·) x y) k) w wc ∧ w.heap.size + 1 + 1 + 1 < g)
      case first =>
        go_region_with (first
          | (go_at_call 32; first | ((with_reducible refine (hA _).mono ?_); rintro e wa ⟨na, sa, la, rfl, va, hba⟩; (first | have js := js.next hba | have js := js.next (b1 hba) | have js := js.next (b2 hba) | have js := js.next (b3 hba)); (first | have cb := cb.next hba | have cb := cb.next (b1 hba) | have cb := (Box.new2 _ (.bool false) (.slice none 0 0) 66).next hba | have cb := (Box.new2 _ (.bool false) (.slice none 0 0) 66).next (b1 hba) | skip); have m0 := js.x.cell k _ hxk; have m1 := js.y.cell k _ hyk; have m2 := js.atx hxk; have m3 := js.aty hyk; have jsz := js.r.lt; have ka := va.len4 xa0 xa1; (first | have vb := vb.later hba | have vb := vb.later (b1 hba) | have vb := vb.later (b2 hba) | have vb := vb.later (b3 hba) | skip); (first | have vm := vm.later hba | have vm := vm.later (b1 hba) | have vm := vm.later (b2 hba) | have vm := vm.later (b3 hba) | skip); clear hba) | ((with_reducible refine (hB _).mono ?_); rintro e wb ⟨nb, sb, lb, rfl, vb, hbb⟩; (first | have js := js.next hbb | have js := js.next (b1 hbb) | have js := js.next (b2 hbb) | have js := js.next (b3 hbb)); (first | have cb := cb.next hbb | have cb := cb.next (b1 hbb) | have cb := (Box.new2 _ (.bool false) (.slice none 0 0) 66).next hbb | have cb := (Box.new2 _ (.bool false) (.slice none 0 0) 66).next (b1 hbb) | skip); have m0 := js.x.cell k _ hxk; have m1 := js.y.cell k _ hyk; have m2 := js.atx hxk; have m3 := js.aty hyk; have jsz := js.r.lt; have kb := vb.len4 ya0 ya1; (first | have va := va.later hbb | have va := va.later (b1 hbb) | have va := va.later (b2 hbb) | have va := va.later (b3 hbb) | skip); clear hbb))
          | (go_at_call 31; refine (Plus_any na nb sa sb la lb xk yk _ (by first | exact va | exact va.later ((Below.refl _ _).alloc (Nat.le_refl _) _)) (by first | exact vb | exact vb.later ((Below.refl _ _).alloc (Nat.le_refl _) _)) (by omega) (by omega)).mono ?_; rintro e wc ⟨nc, sc, lc, rfl, vc, hbc⟩; (first | have js := js.next hbc | have js := js.next (b1 hbc) | have js := js.next (b2 hbc) | have js := js.next (b3 hbc)); (first | have cb := cb.next hbc | have cb := cb.next (b1 hbc) | have cb := (Box.new2 _ (.bool false) (.slice none 0 0) 66).next hbc | have cb := (Box.new2 _ (.bool false) (.slice none 0 0) 66).next (b1 hbc) | skip); have m0 := js.x.cell k _ hxk; have m1 := js.y.cell k _ hyk; have m2 := js.atx hxk; have m3 := js.aty hyk; have jsz := js.r.lt; obtain ⟨ac, cc, rfl, _⟩ := vc.isD; clear hbc; (try obtain ⟨c0, c1, c2, c3⟩ := cb.two)))
        all_goals
          go_wp2_with fail
          go_meet
          first
            | exact ⟨_, _, _, _, rfl, Box.new2 _ _ _ _, vc.later ((Below.refl _ _).alloc (Nat.le_refl _) _), js.next ((Below.refl _ _).alloc (Nat.le_refl _) _), js.r.lt⟩
            | exact ⟨_, _, _, _, rfl, cb.put_two _ _, (vc.put c0 (by intro i h; cases h)).put ((World.cell?_setCell_other _ _ _ _ (by simp)).trans c1) (by intro i h; cases h), (js.put (by omega)).put (by omega), by omega⟩
      case rest =>
        obtain ⟨g, nc, sc, lc, rfl, cb, vc, js, hg⟩ := hcut
        clear m0 m1 m2 m3 jsz
        obtain ⟨ac, cc, hsc, _⟩ := vc.isD
        subst hsc
        obtain ⟨c0, c1, c2, c3⟩ := cb.two
        have m0 := js.x.cell k _ hxk
        have m1 := js.y.cell k _ hyk
        have m2 := js.atx hxk
        have m3 := js.aty hyk
        have jsz := js.r.lt
        obtain ⟨N, hN⟩ : ∃ N, N = xk + yk := ⟨_, rfl⟩
        rw [← hN] at HS HNO HR
        have HNN : Hid _ := hN
        clear hN
        have vc := vc.cast HNN.out.symm
        have hH := rheld_bds N
        have rk0 := js.r.cell k _ HZ.out
        have rk1 := js.r.free k (by rw [outL_length]; omega)
        by_cases hi : In8 N
        · have e1 := rheld_in8 N hi
          have e2 : ¬ 8 < N := by have := hi.2; omega
          have e3 : ¬ N < -8 := by have := hi.1; omega
          have w0 : -9223372036854775808 ≤ N := by omega
          have w1 : N ≤ 9223372036854775807 := by omega
          have HI : Hid _ := hi
          clear hi
          go_wp2_with fail
          refine (rHeld_any nc _ lc N _ vc).mono ?_
          rw [e1]
          rintro e wh ⟨rfl, hbh⟩
          have js := js.next hbh
          have rk0 := js.r.cell k _ HZ.out
          have rk1 := js.r.free k (by rw [outL_length]; omega)
          have jr := js.r.set k (by rw [outL_length]; omega) (.int .i64 N)
          rw [HS.out] at jr
          have JJ : Hid (JS w.heap.size x y (outL (joinR (· + ·) x y) (k + 1)) w (wh.setCell ⟨w.heap.size + 1 + 1 + 1, k, none⟩ (.int .i64 N))) := ⟨js.x.other (by omega), js.y.other (by omega), js.o.other (by omega), jr, js.bl.setCell (by simp; omega) _, js.sz⟩
          clear hbh jr
          go_wp2_with fail
          go_roundw
          case rel =>
            exact ⟨k + 1, by go_num, by omega, HNEW.out (by rw [HR.out]; exact HI.out), JJ.out⟩
          case measure => simp [intOf]; omega
        · have e1 := rheld_out8 N hi
          have NS : Hid _ := HNO.out hi
          clear hi
          generalize hHH : rheld N = H at *
          have HH : Hid _ := hHH
          clear hHH
          rcases e1 with e1 | ⟨e1, e2⟩
          all_goals
            go_wp2_with fail
            refine (rHeld_any nc _ lc N _ vc).mono ?_
            rw [HH.out]
            rintro e wh ⟨rfl, hbh⟩
            have js := js.next hbh
            obtain ⟨o0, o1, o2, o3, o4, o5, o6, o7, o8, o9⟩ := js.o.five
            have bl := js.bl
            clear hbh js
            go_wp2_with fail
            refine bodyPost_ret (v := joinV none) (by simp [results, Tryd.results16, go_sem, joinV, dim0, o0, o1, o2, o3, o4]) rfl ⟨by rw [NS.out], ?_⟩
            exact below_five bl (by omega) _ _ _ _ _
    · obtain rfl : k = 5 := by omega
      have NS : Hid _ := joinS_yes (· + ·) x y (fun j hj => HIN.out j hj)
      generalize joinR (· + ·) x y = R at *
      obtain ⟨o0, o1, o2, o3, o4, o5, o6, o7, o8, o9⟩ := js.o.five
      have jr : Box wr (w.heap.size + 1 + 1 + 1) (dCells R) := js.r
      obtain ⟨r0, r1, r2, r3, r4, r5, r6, r7, r8, r9⟩ := jr.five
      have bl := js.bl
      clear jr js
      go_wp2_with fail
      refine bodyPost_ret (v := .tuple #[dimV R, .bool true]) (by simp [results, Tryd.results16, go_sem, o0, o1, o2, o3, o4]) rfl ⟨by rw [NS.out]; rfl, ?_⟩
      exact below_five bl (by omega) _ _ _ _ _

end Go.Proofs.YtjmngnnmnbhfpaaDoor

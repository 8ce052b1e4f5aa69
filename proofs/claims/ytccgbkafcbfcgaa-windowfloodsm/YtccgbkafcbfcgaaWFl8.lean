/- The walk of WindowFloods. -/
import Derived.Test.YtccgbkafcbfcgaaPaI
import Derived.Test.YtccgbkafcbfcgaaWPl8
namespace Go.Proofs.Ytccgbkafcbfcgaa
open Go.RowKit

theorem tmod_bd (a n : Int) (hn : 0 < n) : -n < a.tmod n ∧ a.tmod n < n := by
  rcases Int.le_total 0 a with h | h
  · rw [Int.tmod_eq_emod_of_nonneg h]
    have h1 := Int.emod_nonneg a (by omega : n ≠ 0)
    have h2 := Int.emod_lt_of_pos a hn
    omega
  · have e : a.tmod n = -((-a).tmod n) := by rw [Int.neg_tmod, Int.neg_neg]
    rw [e, Int.tmod_eq_emod_of_nonneg (by omega)]
    have h1 := Int.emod_nonneg (-a) (by omega : n ≠ 0)
    have h2 := Int.emod_lt_of_pos (-a) hn
    omega
theorem tmod_nat (a n : Int) (ha : 0 ≤ a) (hn : 0 < n) : 0 ≤ a.tmod n := by
  rw [Int.tmod_eq_emod_of_nonneg ha]
  exact Int.emod_nonneg a (by omega)
theorem mul_bd {k n : Nat} {g : Int} (hk : k < n) (h0 : 0 ≤ g) (h4 : g ≤ 4) : 0 ≤ (k : Int) * g ∧ (k : Int) * g ≤ 4 * (n : Int) := by
  refine ⟨Int.mul_nonneg (by omega) h0, ?_⟩
  have h1 := Int.mul_le_mul_of_nonneg_left h4 (show (0 : Int) ≤ (k : Int) by omega)
  omega
/-- Ahead of the round k: both agree; the flood's terms V stand at B. -/
structure FloodAt (B : Nat) (w0 : World) (b rb : Nat) (V : List Value) (ag sp p : Int) (nN k : Nat) (F : List Nat) (g : Nat) (ck : Int) (on : Bool) (A L : List Pr) (w : World) : Prop where
  le : k ≤ nN
  duo : Duo8 B w b rb F g 0 ag sp p ck on A L
  few : A.length ≤ k
  box : Box w B V
  n1 : B ∉ F
  n2 : B ≠ rb
  n3 : B ≠ g
  bel : Below B w0 w
set_option maxRecDepth 20000 in
set_option maxHeartbeats 4000000 in
theorem floods_at (nv ag sp fr st lo wd t1 t2 : Int) (w : World) (hn : 0 ≤ nv ∧ nv ≤ 65535) (i1 : In64 t1) (i2 : In64 t2) :
    Calls Try.prog 4 #[.agg #[.int .u16 nv, .int .i64 ag, .int .i64 sp, .int .i64 fr, .int .i64 st, .int .i64 lo, .int .i64 wd], .int .i64 t1, .int .i64 t2] w fun e w' => e = .returned (.bool true) ∧ Below w.heap.size w w' := by
  obtain ⟨hW, hB⟩ := one_box w 43 [.int .u16 nv, .int .i64 ag, .int .i64 sp, .int .i64 fr, .int .i64 st, .int .i64 lo, .int .i64 wd]
  obtain ⟨W, hWW⟩ : ∃ W, W = w.alloc (.cells #[.int .u16 nv, .int .i64 ag, .int .i64 sp, .int .i64 fr, .int .i64 st, .int .i64 lo, .int .i64 wd] 43) := ⟨_, rfl⟩
  rw [← hWW] at hW hB
  have HW := hid hW
  have HB := hid hB
  clear hW hB
  go_enter Try.func4, Try.ntmps4
  go_upto_region 1 with fail
  rw [← hWW]
  clear hWW
  go_wp2_with fail
  refine Calls.mono (awake_any W) ?_
  rintro e w1 ⟨rfl, hb1⟩
  have hW1 := HW.out.next hb1
  have c1 := hW1.cell 1 _ rfl
  have c2 := hW1.cell 2 _ rfl
  have hlt := hW1.lt
  have hB1 := HB.out.trans (hb1.mono HB.out.size)
  have HB1 := hid hB1
  have HW1 := hid hW1
  clear hb1 hB1 hW1
  have hb2 : Below w1.heap.size w1 (w1.alloc (.cells #[.int .i64 0, .int .i64 ag, .int .i64 sp, .int .i64 0] 23)) := (Below.refl _ _).alloc (Nat.le_refl _) _
  have e1 := (hb2.cell (p := ⟨w.heap.size, 1, none⟩) hlt).trans c1
  clear hb2
  by_cases hag : ag = 6
  case' pos =>
    have hag' : (ag == 6) = true := by simpa using hag
    clear hag
    obtain ⟨p, hp⟩ : ∃ p : Int, p = 50000000 := ⟨_, rfl⟩
    have hpin : In64 p := by rw [hp]; exact ⟨by decide, by decide⟩
    obtain ⟨w2, hw2⟩ : ∃ w2, w2 = w1.alloc (.cells #[.int .i64 0, .int .i64 ag, .int .i64 sp, .int .i64 50000000] 23) := ⟨_, rfl⟩
    have hT2 : Box w2 w1.heap.size [.int .i64 0, .int .i64 ag, .int .i64 sp, .int .i64 p] := by rw [hw2, hp]; exact Box.new w1 [.int .i64 0, .int .i64 ag, .int .i64 sp, .int .i64 50000000] 23
    have hb2 : Below w1.heap.size w1 w2 := by rw [hw2]; exact (Below.refl _ _).alloc (Nat.le_refl _) _
    have HT2 := hid hT2
    have HB2 := hid hb2
    clear hT2 hb2 hp
    go_upto_region 6 with fail
    rw [← hw2]
    clear hw2
  case' neg =>
    have hag' : (ag == 6) = false := by simpa using hag
    clear hag
    obtain ⟨p, hp⟩ : ∃ p : Int, p = 0 := ⟨_, rfl⟩
    have hpin : In64 p := by rw [hp]; exact ⟨by decide, by decide⟩
    obtain ⟨w2, hw2⟩ : ∃ w2, w2 = w1.alloc (.cells #[.int .i64 0, .int .i64 ag, .int .i64 sp, .int .i64 0] 23) := ⟨_, rfl⟩
    have hT2 : Box w2 w1.heap.size [.int .i64 0, .int .i64 ag, .int .i64 sp, .int .i64 p] := by rw [hw2, hp]; exact Box.new w1 [.int .i64 0, .int .i64 ag, .int .i64 sp, .int .i64 0] 23
    have hb2 : Below w1.heap.size w1 w2 := by rw [hw2]; exact (Below.refl _ _).alloc (Nat.le_refl _) _
    have HT2 := hid hT2
    have HB2 := hid hb2
    clear hT2 hb2 hp
    go_upto_region 6 with fail
    rw [← hw2]
    clear hw2
  all_goals (
    obtain ⟨x0, x1, x2, x3, -, -, -, -⟩ := HT2.out.four
    have xl := HT2.out.lt
    have HW2 := hid (HW1.out.next HB2.out)
    have HBw2 := hid (HB1.out.trans (HB2.out.mono HB1.out.size))
    clear c1 c2 e1
    generalize w1.heap.size = gT at *
    by_cases hr : RightT 0 ag sp p
    · have HNW := hid (wNew 0 ag sp p w2 hr hpin)
      simp only [tv] at HNW
      go_wp2_with fail
      refine Calls.mono HNW.out ?_
      rintro e w3 ⟨xb, F, rfl, ha3, fa3, hb3⟩
      have hT3 := HT2.out.next hb3
      clear x0 x1 x2 x3 xl
      obtain ⟨x0, x1, x2, x3, -, -, -, -⟩ := hT3.four
      have xl := hT3.lt
      have HA3 := hid ha3
      have HF3 := hid fa3
      have HB3 := hid hb3
      have HT3 := hid hT3
      have HW3 := hid (HW2.out.next hb3)
      clear ha3 fa3 hb3 hT3
      have HR1 := hid (fRight 0 ag sp p w3)
      rw [rightB_yes hr] at HR1
      simp only [tv] at HR1
      go_wp2_with fail
      refine Calls.mono HR1.out ?_
      rintro e w4 ⟨rfl, hb4⟩
      have hT4 := HT3.out.next hb4
      clear x0 x1 x2 x3 xl
      obtain ⟨x0, x1, x2, x3, -, -, -, -⟩ := hT4.four
      have xl := hT4.lt
      have hD := duo_new (B := w.heap.size) (m := 0) (t := 34) HBw2.out.size HA3.out HF3.out HB3.out hb4 hr.2.2.2.1
      have hBw4 : Below w.heap.size w w4 := (HBw2.out.trans (HB3.out.mono HBw2.out.size)).trans (hb4.mono (Nat.le_trans HBw2.out.size HB3.out.size))
      have hb5 : Below w4.heap.size w4 (w4.alloc (.cells #[.int .i64 0, .int .i64 ag, .int .i64 sp, .int .i64 p, .slice none 0 0, .int .i64 0, .bool false] 34)) := (Below.refl _ _).alloc (Nat.le_refl _) _
      obtain ⟨w5, hw5⟩ : ∃ w5, w5 = w4.alloc (.cells #[.int .i64 0, .int .i64 ag, .int .i64 sp, .int .i64 p, .slice none 0 0, .int .i64 0, .bool false] 34) := ⟨_, rfl⟩
      rw [← hw5] at hD hb5
      have hW5 := (HW3.out.next hb4).next hb5
      have HBw5 := hid (hBw4.trans (hb5.mono hBw4.size))
      have HD := hid hD
      have HW5 := hid hW5
      have HRT := hid hr
      have f3 := hW5.cell 3 _ rfl
      have f4 := hW5.cell 4 _ rfl
      have f5 := hW5.cell 5 _ rfl
      have f6 := hW5.cell 6 _ rfl
      have fl := hW5.lt
      have hrbne : w.heap.size ≠ w4.heap.size := by have h1 := HW3.out.lt; have h2 := hb4.size; omega
      clear hD hBw4 hb5 hb4 hT4 hr hW5
      go_upto_region 12 with fail
      rw [← hw5]
      clear hw5 x0 x1 x2 x3 xl
      generalize w4.heap.size = rb at *
      go_upto_region 15 with fail
      obtain ⟨fb1, fb2⟩ := tmod_bd fr 1000000000 (by decide)
      generalize fr.tmod 1000000000 = f at *
      have gb := tmod_bd st 5 (by decide)
      obtain ⟨gp, hgp, gb1, gb2⟩ : ∃ gp : Int, (if st.tmod 5 < 0 then 0 else st.tmod 5) = gp ∧ 0 ≤ gp ∧ gp ≤ 4 := ⟨_, rfl, by split <;> omega, by split <;> omega⟩
      have wb := tmod_bd wd 1000 (by decide)
      obtain ⟨mw, hmw, mw1, mw2⟩ : ∃ mw : Int, (if wd.tmod 1000 < 0 then 0 else wd.tmod 1000) = mw ∧ 0 ≤ mw ∧ mw ≤ 999 := ⟨_, rfl, by split <;> omega, by split <;> omega⟩
      have hwi : wrap64 (1 + mw) = 1 + mw := by unfold wrap64; omega
      rw [hgp, hmw, hwi]
      obtain ⟨wi, hwi2⟩ : ∃ wi : Int, 1 + mw = wi := ⟨_, rfl⟩
      rw [hwi2]
      have wb1 : 1 ≤ wi := by omega
      have wb2 : wi ≤ 1000 := by omega
      have nb := tmod_bd nv 9000 (by decide)
      have nb0 := tmod_nat nv 9000 hn.1 (by decide)
      obtain ⟨nN, hnN⟩ : ∃ nN : Nat, nv.tmod 9000 = (nN : Int) := ⟨(nv.tmod 9000).toNat, by omega⟩
      have hnN9 : nN < 9000 := by omega
      have lb := tmod_bd lo 1000000000000 (by decide)
      obtain ⟨lo2, hlo2⟩ : ∃ l2 : Int, lo.tmod 1000000000000 = l2 := ⟨_, rfl⟩
      rw [hlo2] at lb
      obtain ⟨lb1, lb2⟩ := lb
      clear gb wb nb nb0 hgp hwi hwi2 hmw mw1 mw2
      have hwi0 : ¬ wi = 0 := by omega
      go_wp2_with fail
      go_loopw [14] (fun i wr => ∃ (k : Nat) (F : List Nat) (g : Nat) (ck : Int) (on : Bool) (A L : List Pr), i = .int .i64 k ∧ FloodAt w.heap.size w xb rb [.int .u16 nv, .int .i64 ag, .int .i64 sp, .int .i64 fr, .int .i64 st, .int .i64 lo, .int .i64 wd] ag sp p nN k F g ck on A L wr) (fun i _ => nN - (intOf i).toNat)
      case atStart =>
        exact ⟨0, F, rb, 0, false, [], [], rfl, by omega, HD.out, by simp, HW5.out, fun hm => by have h1 := HF3.out _ hm; have h2 := HW2.out.lt; omega, hrbne, hrbne, HBw5.out⟩
      case round =>
        obtain ⟨k, G, g, ck, on, A, L, rfl, hk, hT, hAl, hFB, nF, nR, nG, hB⟩ := hrel
        have f0 := hFB.cell 0 _ rfl
        have f5 := hFB.cell 5 _ rfl
        have fl := hFB.lt
        have HT := hid hT
        have HFB := hid hFB
        have HBr := hid hB
        clear hT hFB hB
        by_cases hkl : k = nN
        · subst hkl
          clear f5
          have hA4 : A.length < 8796093022208 := by omega
          obtain ⟨an, hAn⟩ : ∃ an, an = ansOf ag p sp on ck t1 A := ⟨_, rfl⟩
          have hR1 := first_read w.heap.size xb rb G g 0 ag sp p ck on A L t1 wr HT.out i1
          rw [← hAn] at hR1
          have HR1 := hid hR1
          have HAn := hid hAn
          clear hR1 hAn
          have xx1 : (an.1.1 != an.1.1) = false := by simp
          have xx2 : (an.1.2 != an.1.2) = false := by simp
          have xx3 : (an.2 != an.2) = false := by simp
          go_upto_region 21 with fail
          clear f0 fl
          go_wp2_with fail
          refine Calls.mono HR1.out ?_
          rintro e w6 ⟨rfl, F1, L1, hH, hAg, hB6, -⟩
          obtain ⟨q1, q2, q3⟩ := hH.notF (n := w6.heap.size) (Nat.le_refl _)
          have hb7 : Below w6.heap.size w6 (w6.alloc (.cells #[.int .i64 an.1.1, .int .i64 an.1.2] 49)) := (Below.refl _ _).alloc (Nat.le_refl _) _
          have hN7 := Box.new w6 [.int .i64 an.1.1, .int .i64 an.1.2] 49
          obtain ⟨w7, hw7⟩ : ∃ w7, w7 = w6.alloc (.cells #[.int .i64 an.1.1, .int .i64 an.1.2] 49) := ⟨_, rfl⟩
          rw [← hw7] at hb7 hN7
          have hRB1 : w.heap.size ≤ w6.heap.size := hH.start
          have HH7 := hid (hH.next hb7)
          have HAg := hid hAg
          have HN7 := hid hN7
          have HB7 := hid ((HBr.out.trans hB6).trans (hb7.mono hH.start))
          clear hH hAg hB6 hb7 hN7
          simp only [rv]
          go_upto_region 22 with fail
          rw [← hw7]
          clear hw7
          generalize w6.heap.size = r1 at *
          go_wp2_with fail
          refine Calls.mono (second_read w.heap.size xb rb F1 g 0 ag sp p ck on A L1 L t1 w7 HH7.out HAg.out HT.out.agree HRT.out i1 hA4) ?_
          rw [← HAn.out]
          rintro e w8 ⟨rfl, g8, hD8, hB8, hK8⟩
          obtain ⟨hN8, q3'⟩ := hK8 r1 _ HN7.out q2 q3
          obtain ⟨p1, p2, p3⟩ := hD8.notF (n := w8.heap.size) (Nat.le_refl _)
          have r12 : r1 ≠ w8.heap.size := by have := hN8.lt; omega
          have hb9 : Below w8.heap.size w8 (w8.alloc (.cells #[.int .i64 an.1.1, .int .i64 an.1.2] 49)) := (Below.refl _ _).alloc (Nat.le_refl _) _
          have hM9 := Box.new w8 [.int .i64 an.1.1, .int .i64 an.1.2] 49
          obtain ⟨w9, hw9⟩ : ∃ w9, w9 = w8.alloc (.cells #[.int .i64 an.1.1, .int .i64 an.1.2] 49) := ⟨_, rfl⟩
          rw [← hw9] at hb9 hM9
          have hRB2 : w.heap.size ≤ w8.heap.size := hD8.start
          have hN9 := hN8.next hb9
          have hD9 := hD8.next hb9
          have HB9 := hid ((HB7.out.trans hB8).trans (hb9.mono hD8.start))
          have y0 := hN9.cell 0 _ rfl
          have y1 := hN9.cell 1 _ rfl
          have yl := hN9.lt
          have z0 := hM9.cell 0 _ rfl
          have z1 := hM9.cell 1 _ rfl
          have zl := hM9.lt
          have HN9 := hid hN9
          have HM9 := hid hM9
          have HD9 := hid hD9
          clear hD8 hB8 hK8 hb9 hM9 hN9 hD9 hN8 q3
          simp only [rv]
          go_upto_region 23 with fail
          rw [← hw9]
          clear hw9
          generalize w8.heap.size = r2 at *
          generalize ck2 on ck t1 = ckb at *
          obtain ⟨bn, hBn⟩ : ∃ bn, bn = ansOf ag p sp true ckb t2 A := ⟨_, rfl⟩
          have hR2 := first_read w.heap.size xb rb F1 g8 0 ag sp p ckb true A L1 t2 w9 HD9.out i2
          rw [← hBn] at hR2
          have HR2 := hid hR2
          have HBn := hid hBn
          clear hR2 hBn
          go_upto_region 25 with fail
          clear y0 y1 yl z0 z1 zl
          go_wp2_with fail
          refine Calls.mono HR2.out ?_
          rintro e w10 ⟨rfl, F2, L2, hH2, hAg2, hB10, hK10⟩
          obtain ⟨hN10, q4⟩ := hK10 r1 _ HN9.out q1
          obtain ⟨hM10, p4⟩ := hK10 r2 _ HM9.out p1
          have y0 := hN10.cell 0 _ rfl
          have y1 := hN10.cell 1 _ rfl
          have y2 := hN10.free 0 (by simp)
          have y3 : ∀ u, (w10.setCell ⟨r1, 0, none⟩ u).frozen? ⟨r1, 1, none⟩ = false := fun u => (World.frozen?_setCell _ _ _ _).trans (hN10.free 1 (by simp))
          have yl := hN10.lt
          have tS : Turn [r1] w10 ((w10.setCell ⟨r1, 0, none⟩ (.int .i64 bn.1.1)).setCell ⟨r1, 1, none⟩ (.int .i64 bn.1.2)) := (Turn.set _ _ _ (by simp)).andSet _ _ (.inl (by simp))
          obtain ⟨w11, hw11⟩ : ∃ w11, w11 = (w10.setCell ⟨r1, 0, none⟩ (.int .i64 bn.1.1)).setCell ⟨r1, 1, none⟩ (.int .i64 bn.1.2) := ⟨_, rfl⟩
          have hN11 : Box w11 r1 [.int .i64 bn.1.1, .int .i64 bn.1.2] := by rw [hw11]; simpa using (hN10.set 0 (by simp) (.int .i64 bn.1.1)).set 1 (by simp) (.int .i64 bn.1.2)
          rw [← hw11] at tS
          have hM11 := hM10.turn tS (by simpa using Ne.symm r12)
          have hH11 : Half w.heap.size w11 xb rb F2 g8 0 ag sp p ckb true A (ck2 true ckb t2) L2 := ⟨hH2.win.turn tS (fun i hi => by simp; rintro rfl; exact q4 hi), hH2.ref.turn tS (by simpa using Ne.symm q2) (by simpa using Ne.symm q3'), hH2.d1, hH2.d2, hH2.own, hH2.o1, hH2.o2, Nat.le_trans hH2.start tS.size⟩
          have hB11 : Below w.heap.size w w11 := (HB9.out.trans hB10).trans (tS.below (by simpa using hRB1) hH2.start)
          have HN11 := hid hN11
          have HM11 := hid hM11
          have HH11 := hid hH11
          have HB11 := hid hB11
          have HAg2 := hid hAg2
          clear hN11 hM11 hH11 hB11 tS hH2 hAg2 hB10 hK10 hN10 hM10
          simp only [rv]
          go_upto_region 26 with fail
          rw [← hw11]
          clear hw11 y0 y1 y2 y3 yl
          go_wp2_with fail
          refine Calls.mono (second_read w.heap.size xb rb F2 g8 0 ag sp p ckb true A L2 L1 t2 w11 HH11.out HAg2.out HD9.out.agree HRT.out i2 hA4) ?_
          rw [← HBn.out]
          rintro e w12 ⟨rfl, g12, hD12, hB12, hK12⟩
          obtain ⟨hN12, -⟩ := hK12 r1 _ HN11.out q2 q3'
          obtain ⟨hM12, p5⟩ := hK12 r2 _ HM11.out p2 p3
          have z0 := hM12.cell 0 _ rfl
          have z1 := hM12.cell 1 _ rfl
          have z2 := hM12.free 0 (by simp)
          have z3 : ∀ u, (w12.setCell ⟨r2, 0, none⟩ u).frozen? ⟨r2, 1, none⟩ = false := fun u => (World.frozen?_setCell _ _ _ _).trans (hM12.free 1 (by simp))
          have zl := hM12.lt
          obtain ⟨w13, hw13⟩ : ∃ w13, w13 = (w12.setCell ⟨r2, 0, none⟩ (.int .i64 bn.1.1)).setCell ⟨r2, 1, none⟩ (.int .i64 bn.1.2) := ⟨_, rfl⟩
          have hM13 : Box w13 r2 [.int .i64 bn.1.1, .int .i64 bn.1.2] := by rw [hw13]; simpa using (hM12.set 0 (by simp) (.int .i64 bn.1.1)).set 1 (by simp) (.int .i64 bn.1.2)
          have hN13 : Box w13 r1 [.int .i64 bn.1.1, .int .i64 bn.1.2] := by rw [hw13]; exact (hN12.other r12).other r12
          have hB13 : Below w.heap.size w w13 := by rw [hw13]; exact ((HB11.out.trans hB12).setCell hRB2 _).setCell hRB2 _
          have HB13 := hid hB13
          simp only [rv]
          go_upto_region 27 with fail
          rw [← hw13]
          clear hw13 z0 z1 z2 z3 zl
          have y0 := hN13.cell 0 _ rfl
          have y1 := hN13.cell 1 _ rfl
          have yl := hN13.lt
          have z0 := hM13.cell 0 _ rfl
          have z1 := hM13.cell 1 _ rfl
          have zl := hM13.lt
          have xy1 : (bn.1.1 == bn.1.1) = true := by simp
          have xy2 : (bn.1.2 == bn.1.2) = true := by simp
          have xy3 : (bn.2 == bn.2) = true := by simp
          clear hM13 hN13 hB13 hD12 hB12 hK12 hN12 hM12
          go_wp2_with fail
          go_ret
          exact ⟨rfl, HB13.out⟩
        · have hk2 : k < nN := by omega
          have hk3 : (k : Int) < (nN : Int) := by omega
          obtain ⟨kg1, kg2⟩ := mul_bd hk2 gb1 gb2
          obtain ⟨kg, hkg⟩ : ∃ kg : Int, (k : Int) * gp = kg := ⟨_, rfl⟩
          rw [hkg] at kg1 kg2
          have hw1 : IntKind.i64.wrap kg = kg := by rw [IntKind.wrap_i64]; omega
          have hw2 : IntKind.i64.wrap (f + kg) = f + kg := by rw [IntKind.wrap_i64]; omega
          obtain ⟨-, m2b⟩ := tmod_bd (k : Int) wi (by omega)
          have m2a := tmod_nat (k : Int) wi (by omega) (by omega)
          obtain ⟨m2, hm2⟩ : ∃ m2 : Int, (k : Int).tmod wi = m2 := ⟨_, rfl⟩
          rw [hm2] at m2a m2b
          have hw3 : IntKind.i64.wrap (lo2 + m2) = lo2 + m2 := by rw [IntKind.wrap_i64]; omega
          have j1 : In64 (f + kg) := ⟨by omega, by omega⟩
          have j2 : In64 (lo2 + m2) := ⟨by omega, by omega⟩
          go_upto_region 18 with fail
          go_cut [15] from 62 to 89 (fun s15 wc => ∃ n : Nat, s15 = .pointer (some ⟨n, 0, none⟩) ∧ wr.heap.size ≤ n ∧ Box wc n [.int .i64 (f + kg), .int .i64 (lo2 + m2)] ∧ Below wr.heap.size wr wc)
          case first =>
            go_region
            all_goals (go_wp2_with fail; go_meet)
            all_goals exact ⟨_, rfl, Nat.le_refl _, (Box.new wr [.int .i64 (f + kg), .int .i64 (lo2 + m2)] 45).alike (by rfl), ((Below.refl _ _).alloc (Nat.le_refl _) _).drew⟩
          case rest =>
            obtain ⟨n, rfl, hnn, hN, hbc⟩ := hcut
            obtain ⟨wp, rfl⟩ : ∃ wp : World, wp = wc := ⟨_, rfl⟩
            obtain ⟨nf, nr, ng⟩ := HT.out.notF hnn
            have hD := HT.out.next hbc
            have hFp := HFB.out.next hbc
            have c0 := hN.cell 0 _ rfl
            have c1 := hN.cell 1 _ rfl
            have cl := hN.lt
            obtain ⟨er, hEr⟩ : ∃ er, er = erOf on ck (f + kg) := ⟨_, rfl⟩
            have HP := hid (show ∀ k : Nat, Calls Try.prog 14 #[.pointer (some ⟨xb, 0, none⟩), .agg #[.int .i64 (f + kg), .int .i64 (lo2 + m2)]] (wp.drewN k) fun e w' => e = .returned (.int .i64 er) ∧ Mid8 w.heap.size (wp.drewN k) G xb rb g 0 ag sp p ck on A (ck2 on ck (f + kg)) (takenOf on ck (f + kg, lo2 + m2) A) w' from fun k => by rw [hEr]; exact first_put w.heap.size xb rb G g 0 ag sp p ck on A L (f + kg, lo2 + m2) (wp.drewN k) (hD.next (drewN_below wp k)) j1 j2)
            have xx : (er != er) = false := by simp
            have HD2 := hid hD
            have HN := hid hN
            have HFp := hid hFp
            have HBC := hid (HBr.out.trans (hbc.mono HBr.out.size))
            have HE := hid hEr
            clear hD hN hFp hbc hEr f0 f5 fl
            go_wp2_with fail
            go_region_with (first | (go_at_call 14; refine Calls.mono (HP.out 1) ?_; rintro e w6 ⟨rfl, F1, L1, hH, hAg, hB1, hK1⟩; have hN6 := (hK1 n _ (HN.out.next (drewN_below wp 1)) nf).1; have d0 := hN6.cell 0 _ rfl; have d1 := hN6.cell 1 _ rfl; have dl := hN6.lt; have HF6 := hid (hK1 w.heap.size _ (HFp.out.next (drewN_below wp 1)) nF); have HH := hid hH; have HAg := hid hAg; have HB1 := hid ((show Below w.heap.size wp (wp.drewN 1) from (drewN_below wp 1).mono HD2.out.start).trans hB1); clear hH hAg hB1 hK1 hN6) | (go_at_call 15; refine Calls.mono (second_put w.heap.size xb rb F1 g 0 ag sp p ck on A L1 (f + kg, lo2 + m2) _ HH.out HAg.out (by omega)) ?_; rintro e w7 ⟨he7, g', hD7, hB7, hK7⟩; rw [show erOf on ck (f + kg, lo2 + m2).1 = er from HE.out.symm] at he7; subst he7; have HF7 := hid (hK7 w.heap.size _ HF6.out.1 nR nG); have HD7 := hid hD7; have HB7 := hid hB7; clear hD7 hB7 hK7))
            all_goals go_wp2_with fail
            all_goals go_roundw
            all_goals first
              | exact ⟨k + 1, F1, g', _, true, _, L1, by simp, by omega, HD7.out, by have h9 := taken_len on ck (f + kg, lo2 + m2) A; omega, HF7.out.1, HF6.out.2, nR, HF7.out.2, (HBC.out.trans HB1.out).trans HB7.out⟩
              | (simp [intOf]; omega)
    · have HNW := hid (wNew_no 0 ag sp p w2 hr)
      simp only [tv] at HNW
      go_wp2_with fail
      refine Calls.mono HNW.out ?_
      rintro e w3 ⟨rfl, hb3⟩
      have hT3 := HT2.out.next hb3
      clear x0 x1 x2 x3 xl
      obtain ⟨x0, x1, x2, x3, -, -, -, -⟩ := hT3.four
      have xl := hT3.lt
      have HB3 := hid (HBw2.out.trans (hb3.mono HBw2.out.size))
      clear hb3 hT3
      have HR1 := hid (fRight 0 ag sp p w3)
      rw [rightB_no hr] at HR1
      simp only [tv] at HR1
      clear hr
      go_wp2_with fail
      refine Calls.mono HR1.out ?_
      rintro e w4 ⟨rfl, hb4⟩
      have HB4 := hid (HB3.out.trans (hb4.mono HB3.out.size))
      clear hb4 x0 x1 x2 x3 xl
      go_wp2_with fail
      go_ret
      exact ⟨rfl, HB4.out⟩)
theorem windowFloods_walk (nv ag sp fr st lo wd t1 t2 : Int) (w : World) (hn : 0 ≤ nv ∧ nv ≤ 65535) (_h1 : In64 ag) (_h2 : In64 sp) (_h3 : In64 fr) (_h4 : In64 st) (_h5 : In64 lo) (_h6 : In64 wd) (i1 : In64 t1) (i2 : In64 t2) :
    Calls Try.prog 4 #[.agg #[.int .u16 nv, .int .i64 ag, .int .i64 sp, .int .i64 fr, .int .i64 st, .int .i64 lo, .int .i64 wd], .int .i64 t1, .int .i64 t2] w fun e w' => e = .returned (.bool true) ∧ Below w.heap.size w w' := floods_at nv ag sp fr st lo wd t1 t2 w hn i1 i2
end Go.Proofs.Ytccgbkafcbfcgaa

/- Package codec: the document's Decode. -/
import Derived.Test.YthfnjlfhaibbeaaDoorDdE
namespace Go.Proofs.YthfnjlfhaibbeaaDoor
open Go.RowKit

theorem dec_of_none {L : List UInt8} (h : rProg L = none) : decF L = none := by unfold decF; rw [h]; rfl
theorem dec_of_some {L r : List UInt8} {g : PgP} (h : rProg L = some (g, r)) : decF L = some g := by unfold decF; rw [h]; rfl
set_option maxHeartbeats 4000000 in
set_option maxRecDepth 20000 in
theorem rDecode_c (L : List UInt8) (v : Value) (w : World) (hv : ByAt w v L) :
    Calls Tryd.prog 10 #[v] w (DecP L w) := by
  obtain ⟨ad, cap, rfl, hc1, hc2⟩ := RowsK.shape hv
  by_cases hl : 1048576 < L.length
  · have hl' : (1048576 : Int) < (L.length : Int) := by omega
    have HE : Hid (∀ w', Below w.heap.size w w' → DecP L w (.returned (.tuple #[.agg zcL.toArray, .int .i64 2])) w') := chid (fun w' hb => ⟨hb, by rw [if_pos hl, pgv0]⟩)
    generalize DecP L w = Post at *
    go_enter Tryd.func10, Tryd.ntmps10
    go_wp2_with fail
    simp [bodyPost, results, Tryd.results10, go_sem, *]
    exact HE.out _ ((Below.refl _ _).alloc (Nat.le_refl _) _)
  · have hl' : ¬ ((1048576 : Int) < (L.length : Int)) := by omega
    have HP : Hid (∀ w', Below w.heap.size w w' → rProg L = none → DecP L w (.returned (.tuple #[.agg zcL.toArray, .int .i64 40])) w') := chid (fun w' hb hd => ⟨hb, by rw [if_neg hl, dec_of_none hd, pgv0]⟩)
    have HO : Hid (∀ w' g r u, Below w.heap.size w w' → rProg L = some (g, r) → PgNew w.heap.size g u w' → DecP L w (.returned (.tuple #[pgV g u, .int .i64 0])) w') := chid (fun w' g r u hb hd hn => ⟨hb, by rw [if_neg hl, dec_of_some hd]; exact ⟨u, rfl, hn⟩⟩)
    have hlL : L.length ≤ 1048576 := by omega
    generalize DecP L w = Post at *
    obtain ⟨rs, hrs⟩ : ∃ rs, Hid (rs = w.heap.size) := ⟨_, chid rfl⟩
    obtain ⟨w0, hw0⟩ : ∃ w0, Hid (w0 = (((w.alloc (.cells #[.int .i64 0, .int .i64 0, .int .i64 0, .int .i64 0, .int .i64 0, .int .i64 0, .slice none 0 0, .slice none 0 0, .slice none 0 0, .int .i64 0, .int .i64 0, .slice none 0 0] 31)).alloc (.cells #[.slice ad L.length cap, .int .i64 0, .bool false] 59)).alloc (.cells #[.int .i64 0, .int .i64 0, .int .i64 0, .int .i64 0, .int .i64 0, .int .i64 0, .slice none 0 0, .slice none 0 0, .slice none 0 0, .int .i64 0, .int .i64 0, .slice none 0 0] 31))) := ⟨_, chid rfl⟩
    have HB0 : Hid (Below w.heap.size w w0) := chid (by rw [hw0.out]; exact ((Below.refl _ _).alloc (Nat.le_refl _) _).alloc (by simp) _ |>.alloc (by simp; omega) _)
    have HZ : Hid (Box w0 rs zcL ∧ Ph w0 w0 (rs + 1) (rs + 1 + 1) L (.slice ad L.length cap) (pgL pg0 ⟨.slice none 0 0, .slice none 0 0, .slice none 0 0, .slice none 0 0⟩) (some L)) := chid (by
      have X0 := Box.new w zcL 31
      have XA := bel_alloc (w.alloc (.cells zcL.toArray 31)) (.cells #[.slice ad L.length cap, .int .i64 0, .bool false] 59)
      have XB := bel_alloc ((w.alloc (.cells zcL.toArray 31)).alloc (.cells #[.slice ad L.length cap, .int .i64 0, .bool false] 59)) (.cells zcL.toArray 31)
      have X1 := Box.new (w.alloc (.cells zcL.toArray 31)) [.slice ad L.length cap, .int .i64 0, .bool false] 59
      have X2 := Box.new ((w.alloc (.cells zcL.toArray 31)).alloc (.cells #[.slice ad L.length cap, .int .i64 0, .bool false] 59)) zcL 31
      have Y0 := (X0.next XA).next XB
      have Y1 := X1.next XB
      simp only [World.size_alloc] at Y0 Y1 X2
      rw [← hrs.out] at Y0 Y1 X2
      have E : w0 = (((w.alloc (.cells zcL.toArray 31)).alloc (.cells #[.slice ad L.length cap, .int .i64 0, .bool false] 59)).alloc (.cells zcL.toArray 31)) := hw0.out
      rw [← E] at Y0 Y1 X2
      refine ⟨Y0, Turn.refl _ _, X2, ⟨⟨0, false, Nat.zero_le _, by simp, Y1⟩, RowsK.next hv HB0.out, fun h0 b hb => ?_⟩, by omega⟩
      obtain ⟨b', off, cap', e, -, -, hbl, -⟩ := RowsK.open hv h0
      cases e
      cases hb
      have := hrs.out
      show b' < rs + 1
      omega)
    clear hv hl
    go_enter Tryd.func10, Tryd.ntmps10
    go_wp2_with fail
    rw [← hw0.out, ← hrs.out]
    clear hw0
    have HF : Hid (Fr w w0 rs) := chid ⟨HZ.out.1, HB0.out, hrs.out⟩
    have HP0 := chid HZ.out.2
    clear HZ HB0
    obtain ⟨rb, hrb⟩ : ∃ rb, Hid (rb = rs + 1) := ⟨_, chid rfl⟩
    obtain ⟨pb, hpb⟩ : ∃ pb, Hid (pb = rs + 1 + 1) := ⟨_, chid rfl⟩
    rw [← hpb.out, ← hrb.out] at HP0 ⊢
    have hrl : Hid (rs < rb) := chid (by have := hrb.out; omega)
    have HC := chid (rtake_c rb 4 (by decide) (by decide) L _ _ w0 HP0.out.rd)
    refine Calls.mono HC.out ?_
    rintro e w1 ⟨rfl, t1, r1⟩
    have HM := chid (mark_on L)
    have HP1 := chid (HP0.out.call t1 r1)
    clear HC HP0 t1 r1
    generalize oN (rNum 4) 0 (some L) = q at *
    obtain ⟨n, s1⟩ := q
    simp only at HM HP1 ⊢
    by_cases hn : n = 1668313905
    · have HH := chid (HM.out.1 hn)
      subst hn
      clear HM
      go_wp2_with fail
      have HC := chid (rfour_all rb L _ _ w1 HP1.out.rd)
      refine Calls.mono HC.out ?_
      rintro e w2 ⟨rfl, t1, r1⟩
      have HP2 := chid (HP1.out.call t1 r1)
      have HH := chid (HH.out.trans (oN_bind rFour 0 _ _))
      clear HC HP1 t1 r1
      generalize oN rFour 0 s1 = q at *
      obtain ⟨a1, s2⟩ := q
      simp only at HH HP2 ⊢
      obtain ⟨w3, hnw3⟩ : ∃ w', Hid (w' = w2.setCell ⟨pb, 0, none⟩ (.int .i64 a1)) := ⟨_, chid rfl⟩
      have HP3 : Hid (Ph w0 w3 rb pb L (.slice ad L.length cap) (pgL ⟨a1, ⟨0, 0, 0, 0, 0⟩, [], [], [], 0, 0, []⟩ ⟨.slice none 0 0, .slice none 0 0, .slice none 0 0, .slice none 0 0⟩) s2) := chid (by rw [hnw3.out]; exact HP2.out.set 0 (by simp) (.int .i64 a1))
      have p0 := HP2.out.box.cell 0 _ rfl
      have f0 := HP2.out.box.free 0 (by simp)
      have pl := HP2.out.box.lt
      go_wp2_with fail
      rw [← hnw3.out]
      clear hnw3 HP2 p0 f0 pl
      have HC := chid (rfour_all rb L _ _ w3 HP3.out.rd)
      refine Calls.mono HC.out ?_
      rintro e w4 ⟨rfl, t1, r1⟩
      have HP4 := chid (HP3.out.call t1 r1)
      have HH := chid (HH.out.trans (oN_bind rFour 0 _ _))
      clear HC HP3 t1 r1
      generalize oN rFour 0 s2 = q at *
      obtain ⟨a2, s3⟩ := q
      simp only at HH HP4 ⊢
      obtain ⟨w5, hnw5⟩ : ∃ w', Hid (w' = w4.setCell ⟨pb, 9, none⟩ (.int .i64 a2)) := ⟨_, chid rfl⟩
      have HP5 : Hid (Ph w0 w5 rb pb L (.slice ad L.length cap) (pgL ⟨a1, ⟨0, 0, 0, 0, 0⟩, [], [], [], a2, 0, []⟩ ⟨.slice none 0 0, .slice none 0 0, .slice none 0 0, .slice none 0 0⟩) s3) := chid (by rw [hnw5.out]; exact HP4.out.set 9 (by simp) (.int .i64 a2))
      have p9 := HP4.out.box.cell 9 _ rfl
      have f9 := HP4.out.box.free 9 (by simp)
      have pl := HP4.out.box.lt
      go_wp2_with fail
      rw [← hnw5.out]
      clear hnw5 HP4 p9 f9 pl
      have HC := chid (rfour_all rb L _ _ w5 HP5.out.rd)
      refine Calls.mono HC.out ?_
      rintro e w6 ⟨rfl, t1, r1⟩
      have HP6 := chid (HP5.out.call t1 r1)
      have HH := chid (HH.out.trans (oN_bind rFour 0 _ _))
      clear HC HP5 t1 r1
      generalize oN rFour 0 s3 = q at *
      obtain ⟨a3, s4⟩ := q
      simp only at HH HP6 ⊢
      obtain ⟨w7, hnw7⟩ : ∃ w', Hid (w' = w6.setCell ⟨pb, 10, none⟩ (.int .i64 a3)) := ⟨_, chid rfl⟩
      have HP7 : Hid (Ph w0 w7 rb pb L (.slice ad L.length cap) (pgL ⟨a1, ⟨0, 0, 0, 0, 0⟩, [], [], [], a2, a3, []⟩ ⟨.slice none 0 0, .slice none 0 0, .slice none 0 0, .slice none 0 0⟩) s4) := chid (by rw [hnw7.out]; exact HP6.out.set 10 (by simp) (.int .i64 a3))
      have p10 := HP6.out.box.cell 10 _ rfl
      have f10 := HP6.out.box.free 10 (by simp)
      have pl := HP6.out.box.lt
      go_wp2_with fail
      rw [← hnw7.out]
      clear HP6 p10 f10 pl
      obtain ⟨lb, hlb⟩ : ∃ lb, Hid (lb = w7.heap.size) := ⟨_, chid rfl⟩
      have hlp : Hid (w0.heap.size ≤ lb ∧ pb < lb) := chid (by rw [hlb.out]; exact ⟨HP7.out.tr.size, HP7.out.box.lt⟩)
      have HPl := chid (HP7.out.next (bel_alloc w7 (.cells #[.int .i64 0, .int .i64 0, .int .i64 0, .int .i64 0, .int .i64 0] 63)))
      have HBl := chid (Box.new w7 (kL .i64 [] 5) 63)
      have HHl := chid (HH.out.trans (congrArg (fun f => s4.bind f) (rules_start a1 a2 a3)))
      have hww : w7.heap.size = w6.heap.size := by rw [hnw7.out]; simp
      rw [← hww, ← hlb.out]
      rw [← hlb.out] at HBl
      clear hww hnw7
      go_loopw [7] (fun z wr => ∃ j : Nat, z = .int .i64 (j : Nat) ∧ j ≤ 5 ∧ ∃ (xs : List Int) (s : Option (List UInt8)), Hid (xs.length = j) ∧ Hid (rProg L = s.bind (rBind (rMany rEight (5 - j)) (fun r => cQ a1 a2 a3 (xs ++ r)))) ∧ Hid (Box wr lb (kL .i64 xs (5 - j))) ∧ Hid (Ph w0 wr rb pb L (.slice ad L.length cap) (pgL ⟨a1, ⟨0, 0, 0, 0, 0⟩, [], [], [], a2, a3, []⟩ ⟨.slice none 0 0, .slice none 0 0, .slice none 0 0, .slice none 0 0⟩) s)) (fun z _ => match z with | .int _ z => ((5 : Int) - z).toNat | _ => 0)
      case atStart => exact ⟨0, rfl, by omega, [], s4, chid rfl, HHl, HBl, HPl⟩
      case round =>
        obtain ⟨j, rfl, hj, xs, s, hxl, HX, HBx, HPx⟩ := hrel
        clear HH HP7 HPl HBl HHl
        by_cases hlt : j < 5
        · have hlt' : (j : Int) < 5 := by omega
          have HC := chid (rtake8_c rb L _ _ wr HPx.out.rd)
          go_wp2_with fail
          refine Calls.mono HC.out ?_
          rintro e w9 ⟨n, rfl, hn8, t9, r9⟩
          have HP9 := chid (HPx.out.call t9 r9)
          have HB9 := HBx.out.turn t9 (by have := hlp.out.2; have := HPx.out.lt; simp; omega)
          have HX2 := chid (many_step rEight 0 5 j hlt xs (fun r => cQ a1 a2 a3 r) HX.out)
          generalize oN rEight 0 s = q at *
          obtain ⟨y, s5⟩ := q
          simp only at hn8 HX2 HP9
          have b0 := HB9.cell j _ (by have := kL_at .i64 xs (5 - j) (by omega); rwa [hxl.out] at this)
          have b1 := HB9.free j (by rw [kL_len, hxl.out]; omega)
          have b2 := HB9.lt
          have HB9 := chid HB9
          have HB10 : Hid (∀ u, u = .int .i64 y → Box (w9.setCell ⟨lb, j, none⟩ u) lb (kL .i64 (xs ++ [y]) (5 - (j + 1)))) := chid (fun u hu => by
            subst hu
            have h1 := HB9.out.set j (by rw [kL_len, hxl.out]; omega) (.int .i64 y)
            have h2 := kL_set .i64 xs (5 - (j + 1)) y
            rw [hxl.out, show 5 - (j + 1) + 1 = 5 - j by omega] at h2
            rwa [h2] at h1)
          clear HC HX HBx HPx HB9 t9 r9
          go_wp2_with fail
          refine ⟨⟨j + 1, by go_num, by omega, xs ++ [y], s5, chid (by simp [hxl.out]), HX2, chid (HB10.out _ rfl), chid (HP9.out.other hlp.out.1 hlp.out.2 _ _)⟩, ?_⟩
          show ((5 : Int) - ((j : Int) + 1)).toNat < ((5 : Int) - (j : Int)).toNat
          omega
        · have hlt' : ¬ (j : Int) < 5 := by omega
          obtain rfl : j = 5 := by omega
          have HH := chid (many_end rEight 5 xs (fun r => cQ a1 a2 a3 r) HX.out)
          obtain ⟨y1, y2, y3, y4, y5, rfl⟩ := five_of hxl.out
          have l0 := HBx.out.cell 0 _ rfl
          have l1 := HBx.out.cell 1 _ rfl
          have l2 := HBx.out.cell 2 _ rfl
          have l3 := HBx.out.cell 3 _ rfl
          have l4 := HBx.out.cell 4 _ rfl
          clear hlp HX HBx hlb
          have HP10 := HPx
          have p1 := HP10.out.box.cell 1 _ rfl
          have f1 := HP10.out.box.free 1 (by simp)
          have p2 := HP10.out.box.cell 2 _ rfl
          have f2 := HP10.out.box.free 2 (by simp)
          have p3 := HP10.out.box.cell 3 _ rfl
          have f3 := HP10.out.box.free 3 (by simp)
          have p4 := HP10.out.box.cell 4 _ rfl
          have f4 := HP10.out.box.free 4 (by simp)
          have p5 := HP10.out.box.cell 5 _ rfl
          have f5 := HP10.out.box.free 5 (by simp)
          have pl := HP10.out.box.lt
          obtain ⟨w11, hw11⟩ : ∃ w', Hid (w' = (((((wr.setCell ⟨pb, 1, none⟩ (.int .i64 y1)).setCell ⟨pb, 2, none⟩ (.int .i64 y2)).setCell ⟨pb, 3, none⟩ (.int .i64 y3)).setCell ⟨pb, 4, none⟩ (.int .i64 y4)).setCell ⟨pb, 5, none⟩ (.int .i64 y5))) := ⟨_, chid rfl⟩
          have HP11 : Hid (Ph w0 w11 rb pb L (.slice ad L.length cap) (pgL ⟨a1, ⟨y1, y2, y3, y4, y5⟩, [], [], [], a2, a3, []⟩ ⟨.slice none 0 0, .slice none 0 0, .slice none 0 0, .slice none 0 0⟩) s) := chid (by rw [hw11.out]; exact (((((HP10.out.set 1 (by simp) (.int .i64 y1)).set 2 (by simp) (.int .i64 y2)).set 3 (by simp) (.int .i64 y3)).set 4 (by simp) (.int .i64 y4)).set 5 (by simp) (.int .i64 y5)))
          go_wp2_with fail
          rw [← hw11.out]
          clear hw11 HP10 HPx p1 f1 p2 f2 p3 f3 p4 f4 p5 f5 pl
          have HH := chid (show rProg L = s.bind (rBind (rList 16384 rEight) (cK a1 a2 a3 ⟨y1, y2, y3, y4, y5⟩)) from HH.out)
          have HC := chid (rfour_c rb 16384 (by decide) L _ _ w11 HP11.out.rd)
          refine Calls.mono HC.out ?_
          rintro e w12 ⟨rfl, t1, r1⟩
          have HP12 := chid (HP11.out.call t1 r1)
          have HH := chid (HH.out.trans (start_list 16384 (by decide) rEight (cK a1 a2 a3 ⟨y1, y2, y3, y4, y5⟩) s))
          obtain ⟨N, hNe, hNm⟩ := four_range 16384 s
          clear HC HP11 t1 r1
          generalize oN (rFourM 16384) 0 s = q at *
          obtain ⟨nv, s12⟩ := q
          simp only at HH HP12 hNe ⊢
          subst hNe
          rw [show ((N : Int)).toNat = N by omega] at HH
          go_wp2_with fail
          have HF := chid (HF.out.ph HP12.out hrl.out)
          have HP0 := chid HP12.out.base
          have hbw : Hid (pb < w12.heap.size) := chid HP0.out.box.lt
          clear HP12
          go_loopw [9] (fun z wr => ∃ j : Nat, z = .int .i64 (j : Nat) ∧ j ≤ N ∧ ∃ (xs : List Int) (s : Option (List UInt8)) (ra : Option Addr) (rc : Nat), Hid (xs.length = j) ∧ Hid (rProg L = s.bind (rBind (rMany rEight (N - j)) (fun r => cK a1 a2 a3 ⟨y1, y2, y3, y4, y5⟩ (xs ++ r)))) ∧ Hid (wr.ownsRow w12.heap.size 2 1 (.slice ra xs.length rc) xs.length (flR (fun a : Int => [.int .i64 a]) xs)) ∧ Hid (Ph w12 wr rb pb L (.slice ad L.length cap) (pgL ⟨a1, ⟨y1, y2, y3, y4, y5⟩, [], [], [], a2, a3, []⟩ ⟨.slice ra xs.length rc, .slice none 0 0, .slice none 0 0, .slice none 0 0⟩) s)) (fun z _ => match z with | .int _ z => ((N : Int) - z).toNat | _ => 0)
          case atStart => exact ⟨0, rfl, by omega, [], s12, none, 0, chid rfl, HH, chid (World.ownsRow_nil _ _ _ _), HP0⟩
          case round =>
            obtain ⟨j, rfl, hj, xs, s, ra, rc, hxl, HX, HOw, HPx⟩ := hrel
            clear HH HP0
            obtain ⟨ii, bad, hii, hse, hB⟩ := HPx.out.rd.st
            have HSe := chid hse
            clear hse
            have b2 := hB.cell 2 _ rfl
            clear hB hii
            go_upto_region 18 with fail
            go_cut [71] (fun v wx => v = .bool (decide ((j : Int) < (N : Int)) && !bad) ∧ wr = wx)
            case first =>
              by_cases hlt : (j : Int) < (N : Int)
              · cases bad
                all_goals go_wp2_with fail
                all_goals go_meet
                all_goals exact ⟨by simp [hlt], rfl⟩
              · go_wp2_with fail
                all_goals go_meet
                all_goals exact ⟨by simp at hlt ⊢; intro h; omega, rfl⟩
            case rest =>
              obtain ⟨rfl, rfl⟩ := hcut
              by_cases hgo : j < N ∧ bad = false
              · obtain ⟨hlt, rfl⟩ := hgo
                have hlt' : (j : Int) < (N : Int) := by omega
                have hc : (decide ((j : Int) < (N : Int)) && !false) = true := by simp; exact hlt
                rw [hc]
                clear hc HSe b2
                go_wp2_with fail
                obtain ⟨i0, hi, hz0, hz1, hz2⟩ := info_K'
                have HPd := chid (HPx.out.next (Below.refl _ _).drew)
                have HOd := chid (own_turn HOw.out (S := []) (Turn.of_below (Below.refl wr.heap.size wr).drew) (fun _ _ hm => by cases hm))
                have HX2 := chid (many_step rEight 0 N j hlt xs (fun r => cK a1 a2 a3 ⟨y1, y2, y3, y4, y5⟩ r) HX.out)
                have HC := chid (rtake8_d rb L _ _ _ HPd.out.rd)
                generalize oN rEight 0 s = q at HX2 HC
                obtain ⟨y, s5⟩ := q
                simp only at HX2 HC
                have pc := HPd.out.box.cell 6 _ rfl
                have pl := HPd.out.box.lt
                have hxb : xs.length ≤ 16384 := by rw [hxl.out]; omega
                clear HX HPx HOw
                go_region_law (first
                  | (refine step_fn rfl HC.out (by first | rfl | go_simp) ?_; rintro u w9 ⟨n, rfl, hn8, t9, r9⟩; have HP9 := chid (HPd.out.call t9 r9); have HLy := chid (lay_row HP9.out (own_rd HOd.out t9 (by have := HPd.out.lt; have := hbw.out; omega)) hbw.out y #[.int .i64 y] rfl rfl); have pc9 := HP9.out.box.cell 6 _ rfl; have pl9 := HP9.out.box.lt; have ps9 := HP9.out.tr.size; clear t9 r9)
                  | (refine step_append_lies _ rfl (.tmp 75) (.tmp 79) 26 rfl w12.heap.size 2 i0 (.int .i64 0) 1 8 Tryd.underlying26 hi hz0 hz1 hz2 rfl (by decide) (.slice ra xs.length rc) xs.length (flR (fun a : Int => [.int .i64 a]) xs) (by simp [Act.eval]) HLy.out.1 ⟨w9.heap.size, 0, none⟩ 1 1 [.int .i64 y] (by simp [Act.eval]) rfl HLy.out.2.1 (by intro u hu; simp only [List.mem_cons, List.not_mem_nil, or_false] at hu; subst hu; rfl) (by decide) (by unfold maxLen; omega) (by omega) (by simp; omega) _ rfl ?_; intro g1 c1 w5 o5 k5 a5 l5; have q5 := HLy.out.2.2 g1 c1 w5 o5 k5; have HP5 := chid q5.1; have HO5 := chid q5.2; have pc5 := HP5.out.box.cell 6 _ rfl; have pf5 := HP5.out.box.free 6 (by simp); have pl5 := HP5.out.box.lt; clear o5 k5 a5 l5 q5))
                all_goals go_wp2_with fail
                all_goals refine ⟨⟨j + 1, by go_num, by omega, xs ++ [y], s5, some ⟨g1, 0, none⟩, c1, chid (by simp [hxl.out]), HX2, chid (HO5.out _ _), chid ?_⟩, ?_⟩
                all_goals first
                  | (rw [List.length_append]; exact HP5.out.set 6 (by simp) _)
                  | (show ((N : Int) - ((j : Int) + 1)).toNat < ((N : Int) - (j : Int)).toNat; omega)
              · have hc : (decide ((j : Int) < (N : Int)) && !bad) = false := by
                  cases bad
                  · simp
                    simp at hgo
                    omega
                  · simp
                rw [hc]
                have HH : Hid (rProg L = s.bind (cK a1 a2 a3 ⟨y1, y2, y3, y4, y5⟩ xs)) := chid (by
                  cases bad
                  · have hjN : j = N := by simp at hgo; omega
                    have h1 := HX.out
                    rw [hjN] at h1
                    exact many_end rEight N xs (fun r => cK a1 a2 a3 ⟨y1, y2, y3, y4, y5⟩ r) h1
                  · have h1 := HX.out
                    rw [HSe.out] at h1 ⊢
                    exact h1)
                have hNx : Hid (xs.length ≤ N) := chid (by rw [hxl.out]; exact hj)
                clear hc hgo HX HSe b2 hxl
                go_wp2_with fail
                obtain ⟨w20, rfl⟩ : ∃ x : World, x = wr := ⟨_, rfl⟩
                obtain ⟨ks, rfl⟩ : ∃ x : List Int, x = xs := ⟨_, rfl⟩
                obtain ⟨ra1, rfl⟩ : ∃ x : Option Addr, x = ra := ⟨_, rfl⟩
                obtain ⟨rc1, rfl⟩ : ∃ x : Nat, x = rc := ⟨_, rfl⟩
                obtain ⟨s20, rfl⟩ : ∃ x : Option (List UInt8), x = s := ⟨_, rfl⟩
                have hOK := chid (own_low (pb + 1) HOw.out (by have := hbw.out; omega))
                have HF := chid (HF.out.ph HPx.out hrl.out)
                have HP20 := chid HPx.out.base
                clear HPx HOw hbw
                have HH := chid (show rProg L = s20.bind (rBind (rList 256 rWin) (cW a1 a2 a3 ⟨y1, y2, y3, y4, y5⟩ ks)) from HH.out)
                have HC := chid (rfour_c rb 256 (by decide) L _ _ w20 HP20.out.rd)
                refine Calls.mono HC.out ?_
                rintro e w21 ⟨rfl, t1, r1⟩
                have HP21 := chid (HP20.out.call t1 r1)
                have HH := chid (HH.out.trans (start_list 256 (by decide) rWin (cW a1 a2 a3 ⟨y1, y2, y3, y4, y5⟩ ks) s20))
                obtain ⟨N2, hNe, hNm⟩ := four_range 256 s20
                clear HC HP20 t1 r1
                generalize oN (rFourM 256) 0 s20 = q at *
                obtain ⟨nv, s21⟩ := q
                simp only at HH HP21 hNe ⊢
                subst hNe
                rw [show ((N2 : Int)).toNat = N2 by omega] at HH
                go_wp2_with fail
                have hOK := chid (HP21.out.row hOK.out (by omega))
                have HF := chid (HF.out.ph HP21.out hrl.out)
                have HP0 := chid HP21.out.base
                have hbw : Hid (pb < w21.heap.size) := chid HP0.out.box.lt
                clear HP21
                go_loopw [10] (fun z wr => ∃ j : Nat, z = .int .i64 (j : Nat) ∧ j ≤ N2 ∧ ∃ (xs : List WiP) (s : Option (List UInt8)) (ra : Option Addr) (rc : Nat), Hid (xs.length = j) ∧ Hid (rProg L = s.bind (rBind (rMany rWin (N2 - j)) (fun r => cW a1 a2 a3 ⟨y1, y2, y3, y4, y5⟩ ks (xs ++ r)))) ∧ Hid (wr.ownsRow w21.heap.size 65 4 (.slice ra xs.length rc) xs.length (flR (fun a : WiP => wiL a) xs)) ∧ Hid (Ph w21 wr rb pb L (.slice ad L.length cap) (pgL ⟨a1, ⟨y1, y2, y3, y4, y5⟩, [], [], [], a2, a3, []⟩ ⟨.slice ra1 ks.length rc1, .slice ra xs.length rc, .slice none 0 0, .slice none 0 0⟩) s)) (fun z _ => match z with | .int _ z => ((N2 : Int) - z).toNat | _ => 0)
                case atStart => exact ⟨0, rfl, by omega, [], s21, none, 0, chid rfl, HH, chid (World.ownsRow_nil _ _ _ _), HP0⟩
                case round =>
                  obtain ⟨j, rfl, hj, xs, s, ra, rc, hxl, HX, HOw, HPx⟩ := hrel
                  clear HH HP0
                  obtain ⟨ii, bad, hii, hse, hB⟩ := HPx.out.rd.st
                  have HSe := chid hse
                  clear hse
                  have b2 := hB.cell 2 _ rfl
                  clear hB hii
                  go_upto_region 23 with fail
                  go_cut [93] (fun v wx => v = .bool (decide ((j : Int) < (N2 : Int)) && !bad) ∧ wr = wx)
                  case first =>
                    by_cases hlt : (j : Int) < (N2 : Int)
                    · cases bad
                      all_goals go_wp2_with fail
                      all_goals go_meet
                      all_goals exact ⟨by simp [hlt], rfl⟩
                    · go_wp2_with fail
                      all_goals go_meet
                      all_goals exact ⟨by simp at hlt ⊢; intro h; omega, rfl⟩
                  case rest =>
                    obtain ⟨rfl, rfl⟩ := hcut
                    by_cases hgo : j < N2 ∧ bad = false
                    · obtain ⟨hlt, rfl⟩ := hgo
                      have hlt' : (j : Int) < (N2 : Int) := by omega
                      have hc : (decide ((j : Int) < (N2 : Int)) && !false) = true := by simp; exact hlt
                      rw [hc]
                      clear hc HSe b2
                      go_wp2_with fail
                      obtain ⟨i0, hi, hz0, hz1, hz2⟩ := info_W'
                      have HPwr := chid HPx.out.base
                      have HX := chid ((many_next rWin N2 j hlt xs (fun r => cW a1 a2 a3 ⟨y1, y2, y3, y4, y5⟩ ks r) HX.out).trans (congrArg (fun f => s.bind f) (win_split _)))
                      have HV := HX
                      have HC := chid (rfour_all rb L _ _ wr HPwr.out.rd)
                      refine Calls.mono HC.out ?_
                      rintro e v1 ⟨rfl, t1, r1⟩
                      have HPv1 := chid (HPwr.out.call t1 r1)
                      have HX := chid (HX.out.trans (oN_bind rFour 0 _ _))
                      clear HC HPwr t1 r1 
                      generalize oN rFour 0 s = q at *
                      obtain ⟨m1, s31⟩ := q
                      simp only at HX HPv1 ⊢
                      obtain ⟨bn, hbe⟩ : ∃ bn, Hid (bn = v1.heap.size) := ⟨_, chid rfl⟩
                      have hbn : Hid (wr.heap.size ≤ bn ∧ pb < bn) := chid (by rw [hbe.out]; exact ⟨HPv1.out.tr.size, HPv1.out.box.lt⟩)
                      have HBv2 := Box.new v1 [.int .i64 m1, .int .i64 0, .int .i64 0, .int .i64 0] 65
                      have HPv2 := chid (HPv1.out.next (bel_alloc v1 (.cells #[.int .i64 m1, .int .i64 0, .int .i64 0, .int .i64 0] 65)))
                      go_wp2_with fail
                      obtain ⟨v2, hnw⟩ : ∃ x, Hid (x = v1.alloc (.cells #[.int .i64 m1, .int .i64 0, .int .i64 0, .int .i64 0] 65)) := ⟨_, chid rfl⟩
                      rw [← hnw.out] at HPv2 ⊢
                      have HBv2 : Box v2 bn [.int .i64 m1, .int .i64 0, .int .i64 0, .int .i64 0] := by rw [hnw.out, hbe.out]; exact HBv2
                      rw [← hbe.out]
                      clear hnw hbe HPv1
                      have HC := chid (rfour_all rb L _ _ v2 HPv2.out.rd)
                      refine Calls.mono HC.out ?_
                      rintro e v3 ⟨rfl, t1, r1⟩
                      have HPv3 := chid (HPv2.out.call t1 r1)
                      have HX := chid (HX.out.trans (oN_bind rFour 0 _ _))
                      have HBv3 := HBv2.turn t1 (by have := hbn.out; have := HPv2.out.lt; simp; omega)
                      clear HC HPv2 t1 r1 HBv2
                      generalize oN rFour 0 s31 = q at *
                      obtain ⟨m2, s32⟩ := q
                      simp only at HX HPv3 ⊢
                      have b0 := HBv3.free 1 (by simp)
                      have b1 := HBv3.cell 1 _ rfl
                      have b2 := HBv3.lt
                      have HPv4 := chid (HPv3.out.other hbn.out.1 hbn.out.2 1 (.int .i64 m2))
                      have HBv4 : Box (v3.setCell ⟨bn, 1, none⟩ (.int .i64 m2)) bn [.int .i64 m1, .int .i64 m2, .int .i64 0, .int .i64 0] := HBv3.set 1 (by simp) _
                      go_wp2_with fail
                      obtain ⟨v4, hnw⟩ : ∃ x, Hid (x = v3.setCell ⟨bn, 1, none⟩ (.int .i64 m2)) := ⟨_, chid rfl⟩
                      rw [← hnw.out] at HPv4 HBv4 ⊢
                      clear hnw b0 b1 b2 HPv3 HBv3
                      have HC := chid (rtake8_c rb L _ _ v4 HPv4.out.rd)
                      refine Calls.mono HC.out ?_
                      rintro e v5 ⟨n, rfl, hn8, t1, r1⟩
                      have HPv5 := chid (HPv4.out.call t1 r1)
                      have HX := chid (HX.out.trans (oN_bind rEight 0 _ _))
                      have HBv5 := HBv4.turn t1 (by have := hbn.out; have := HPv4.out.lt; simp; omega)
                      clear HC HPv4 t1 r1 HBv4
                      generalize oN rEight 0 s32 = q at *
                      obtain ⟨m3, s33⟩ := q
                      simp only at HX HPv5 hn8 ⊢
                      have b0 := HBv5.free 2 (by simp)
                      have b1 := HBv5.cell 2 _ rfl
                      have b2 := HBv5.lt
                      have HPv6 := chid (HPv5.out.other hbn.out.1 hbn.out.2 2 (.int .i64 m3))
                      have HBv6 : Box (v5.setCell ⟨bn, 2, none⟩ (.int .i64 m3)) bn [.int .i64 m1, .int .i64 m2, .int .i64 m3, .int .i64 0] := HBv5.set 2 (by simp) _
                      go_wp2_with fail
                      obtain ⟨v6, hnw⟩ : ∃ x, Hid (x = v5.setCell ⟨bn, 2, none⟩ (.int .i64 m3)) := ⟨_, chid rfl⟩
                      rw [← hnw.out] at HPv6 HBv6 ⊢
                      clear hnw b0 b1 b2 HPv5 HBv5
                      have HC := chid (rtake8_c rb L _ _ v6 HPv6.out.rd)
                      refine Calls.mono HC.out ?_
                      rintro e v7 ⟨n, rfl, hn8, t1, r1⟩
                      have HPv7 := chid (HPv6.out.call t1 r1)
                      have HX := chid (HX.out.trans (oN_bind rEight 0 _ _))
                      have HBv7 := HBv6.turn t1 (by have := hbn.out; have := HPv6.out.lt; simp; omega)
                      clear HC HPv6 t1 r1 HBv6
                      generalize oN rEight 0 s33 = q at *
                      obtain ⟨m4, s34⟩ := q
                      simp only at HX HPv7 hn8 ⊢
                      have b0 := HBv7.free 3 (by simp)
                      have b1 := HBv7.cell 3 _ rfl
                      have b2 := HBv7.lt
                      have x0 := HBv7.cell 0 _ rfl
                      have x1 := HBv7.cell 1 _ rfl
                      have x2 := HBv7.cell 2 _ rfl
                      have pc := HPv7.out.box.cell 7 _ rfl
                      have pl := HPv7.out.box.lt
                      have HPz := chid (HPv7.out.other hbn.out.1 hbn.out.2 3 (.int .i64 m4))
                      have HOz := chid (HPz.out.row HOw.out hbw.out)
                      have HPz := chid (HPx.out.trans HPz.out)
                      have HLy := chid (lay_row HPz.out HOz.out hbw.out (⟨m1, m2, m3, m4⟩ : WiP) #[.int .i64 m1, .int .i64 m2, .int .i64 m3, .int .i64 m4] rfl (H := v7.heap.size) (by simp))
                      have ps := HPz.out.tr.size
                      have hpn : pb < bn := hbn.out.2
                      simp only [World.size_setCell] at ps
                      have hxb : xs.length ≤ 16384 := by rw [hxl.out]; omega
                      clear HPx HOw HPv7 HBv7
                      go_wp2_with (at_builtin; refine wpList_append_lies _ rfl _ _ 27 rfl w21.heap.size 65 i0 (.agg #[.int .i64 0, .int .i64 0, .int .i64 0, .int .i64 0]) 4 32 Tryd.underlying27 hi hz0 hz1 hz2 rfl (by decide) (.slice ra xs.length rc) xs.length (flR (fun a : WiP => wiL a) xs) (by first | rfl | simp [Act.eval]) HLy.out.1 ⟨v7.heap.size, 0, none⟩ 1 1 [.int .i64 m1, .int .i64 m2, .int .i64 m3, .int .i64 m4] (by first | rfl | simp [Act.eval]) rfl HLy.out.2.1 (by intro u hu; simp only [List.mem_cons, List.not_mem_nil, or_false] at hu; rcases hu with rfl | rfl | rfl | rfl <;> rfl) (by decide) (by unfold maxLen; omega) (by omega) (by simp; omega) _ rfl ?_; intro g1 c1 w5 o5 k5 a5 l5; have q5 := HLy.out.2.2 g1 c1 w5 o5 k5; have HP5 := chid q5.1; have HO5 := chid q5.2; have pc5 := HP5.out.box.cell 7 _ rfl; have pf5 := HP5.out.box.free 7 (by simp); have pl5 := HP5.out.box.lt; clear o5 k5 a5 l5 q5)
                      refine ⟨⟨j + 1, by go_num, by omega, xs ++ [(⟨m1, m2, m3, m4⟩ : WiP)], s34, some ⟨g1, 0, none⟩, c1, chid (by simp [hxl.out]), HX, chid (HO5.out _ _), chid ?_⟩, ?_⟩
                      · rw [List.length_append]
                        exact HP5.out.set 7 (by simp) _
                      · show ((N2 : Int) - ((j : Int) + 1)).toNat < ((N2 : Int) - (j : Int)).toNat
                        omega
                    · have hc : (decide ((j : Int) < (N2 : Int)) && !bad) = false := by
                        cases bad
                        · simp
                          simp at hgo
                          omega
                        · simp
                      rw [hc]
                      have HH : Hid (rProg L = s.bind (cW a1 a2 a3 ⟨y1, y2, y3, y4, y5⟩ ks xs)) := chid (by
                        cases bad
                        · have hjN : j = N2 := by simp at hgo; omega
                          have h1 := HX.out
                          rw [hjN] at h1
                          exact many_end rWin N2 xs (fun r => cW a1 a2 a3 ⟨y1, y2, y3, y4, y5⟩ ks r) h1
                        · have h1 := HX.out
                          rw [HSe.out] at h1 ⊢
                          exact h1)
                      have hNx : Hid (xs.length ≤ N2) := chid (by rw [hxl.out]; exact hj)
                      clear hc hgo HX HSe b2 hxl
                      go_wp2_with fail
                      obtain ⟨w30, rfl⟩ : ∃ x : World, x = wr := ⟨_, rfl⟩
                      obtain ⟨ws, rfl⟩ : ∃ x : List WiP, x = xs := ⟨_, rfl⟩
                      obtain ⟨ra2, rfl⟩ : ∃ x : Option Addr, x = ra := ⟨_, rfl⟩
                      obtain ⟨rc2, rfl⟩ : ∃ x : Nat, x = rc := ⟨_, rfl⟩
                      obtain ⟨s30, rfl⟩ : ∃ x : Option (List UInt8), x = s := ⟨_, rfl⟩
                      have hOK := chid (HPx.out.row hOK.out (by omega))
                      have hOW := chid (own_low (pb + 1) HOw.out (by have := hbw.out; omega))
                      have HF := chid (HF.out.ph HPx.out hrl.out)
                      have HP30 := chid HPx.out.base
                      clear HPx HOw hbw
                      have HH := chid (show rProg L = s30.bind (rBind (rList 256 rCron) (cC a1 a2 a3 ⟨y1, y2, y3, y4, y5⟩ ks ws)) from HH.out)
                      have HC := chid (rfour_c rb 256 (by decide) L _ _ w30 HP30.out.rd)
                      refine Calls.mono HC.out ?_
                      rintro e w31 ⟨rfl, t1, r1⟩
                      have HP31 := chid (HP30.out.call t1 r1)
                      have HH := chid (HH.out.trans (start_list 256 (by decide) rCron (cC a1 a2 a3 ⟨y1, y2, y3, y4, y5⟩ ks ws) s30))
                      obtain ⟨N3, hNe, hNm⟩ := four_range 256 s30
                      clear HC HP30 t1 r1
                      generalize oN (rFourM 256) 0 s30 = q at *
                      obtain ⟨nv, s31⟩ := q
                      simp only at HH HP31 hNe ⊢
                      subst hNe
                      rw [show ((N3 : Int)).toNat = N3 by omega] at HH
                      go_wp2_with fail
                      have hOK := chid (HP31.out.row hOK.out (by omega))
                      have hOW := chid (HP31.out.row hOW.out (by omega))
                      have HF := chid (HF.out.ph HP31.out hrl.out)
                      have HP0 := chid HP31.out.base
                      have hbw : Hid (pb < w31.heap.size) := chid HP0.out.box.lt
                      clear HP31
                      go_loopw [12] (fun z wr => ∃ j : Nat, z = .int .i64 (j : Nat) ∧ j ≤ N3 ∧ ∃ (xs : List Cr) (s : Option (List UInt8)) (ra : Option Addr) (rc : Nat), Hid (xs.length = j) ∧ Hid (rProg L = s.bind (rBind (rMany rCron (N3 - j)) (fun r => cC a1 a2 a3 ⟨y1, y2, y3, y4, y5⟩ ks ws (xs ++ r)))) ∧ Hid (wr.ownsRow w31.heap.size 68 5 (.slice ra xs.length rc) xs.length (flR (fun a : Cr => crL a) xs)) ∧ Hid (Ph w31 wr rb pb L (.slice ad L.length cap) (pgL ⟨a1, ⟨y1, y2, y3, y4, y5⟩, [], [], [], a2, a3, []⟩ ⟨.slice ra1 ks.length rc1, .slice ra2 ws.length rc2, .slice ra xs.length rc, .slice none 0 0⟩) s)) (fun z _ => match z with | .int _ z => ((N3 : Int) - z).toNat | _ => 0)
                      case atStart => exact ⟨0, rfl, by omega, [], s31, none, 0, chid rfl, HH, chid (World.ownsRow_nil _ _ _ _), HP0⟩
                      case round =>
                        obtain ⟨j, rfl, hj, xs, s, ra, rc, hxl, HX, HOw, HPx⟩ := hrel
                        clear HH HP0
                        obtain ⟨ii, bad, hii, hse, hB⟩ := HPx.out.rd.st
                        have HSe := chid hse
                        clear hse
                        have b2 := hB.cell 2 _ rfl
                        clear hB hii
                        go_upto_region 32 with fail
                        go_cut [127] (fun v wx => v = .bool (decide ((j : Int) < (N3 : Int)) && !bad) ∧ wr = wx)
                        case first =>
                          by_cases hlt : (j : Int) < (N3 : Int)
                          · cases bad
                            all_goals go_wp2_with fail
                            all_goals go_meet
                            all_goals exact ⟨by simp [hlt], rfl⟩
                          · go_wp2_with fail
                            all_goals go_meet
                            all_goals exact ⟨by simp at hlt ⊢; intro h; omega, rfl⟩
                        case rest =>
                          obtain ⟨rfl, rfl⟩ := hcut
                          by_cases hgo : j < N3 ∧ bad = false
                          · obtain ⟨hlt, rfl⟩ := hgo
                            have hlt' : (j : Int) < (N3 : Int) := by omega
                            have hc : (decide ((j : Int) < (N3 : Int)) && !false) = true := by simp; exact hlt
                            rw [hc]
                            clear hc HSe b2
                            go_wp2_with fail
                            obtain ⟨i0, hi, hz0, hz1, hz2⟩ := info_C'
                            obtain ⟨wo, rfl⟩ : ∃ x : World, x = wr := ⟨_, rfl⟩
                            have HPwr := chid HPx.out.base
                            obtain ⟨G, HG⟩ : ∃ G : Cr → Rdr PgP, Hid (G = fun a => rBind (rMany rCron (N3 - (j + 1))) (fun r => cC a1 a2 a3 ⟨y1, y2, y3, y4, y5⟩ ks ws ((xs ++ [a]) ++ r))) := ⟨_, chid rfl⟩
                            have HX := chid (show rProg L = s.bind (rBind (rMany (rNum 8) 5) (fun r => crG G ([] ++ r))) from by rw [HG.out]; exact (many_next rCron N3 j hlt xs (fun r => cC a1 a2 a3 ⟨y1, y2, y3, y4, y5⟩ ks ws r) HX.out).trans (congrArg (fun f => s.bind f) (cron_split _)))
                            obtain ⟨bn, hbe⟩ : ∃ bn, Hid (bn = wo.heap.size) := ⟨_, chid rfl⟩
                            have hbn : Hid (wo.heap.size ≤ bn ∧ pb < bn) := chid (by rw [hbe.out]; exact ⟨HPwr.out.tr.size, HPwr.out.box.lt⟩)
                            have HB1 := chid (Box.new wo (kN [] 5) 66)
                            rw [← hbe.out] at HB1
                            have HP1 := chid (HPwr.out.next (bel_alloc wo (.cells #[.int .u64 0, .int .u64 0, .int .u64 0, .int .u64 0, .int .u64 0] 66)))
                            rw [← hbe.out]
                            clear hbe HPwr
                            go_loopw [14] (fun z wz => ∃ k : Nat, z = .int .i64 (k : Nat) ∧ k ≤ 5 ∧ ∃ (ys : List Nat) (s : Option (List UInt8)), Hid (ys.length = k) ∧ Hid (rProg L = s.bind (rBind (rMany (rNum 8) (5 - k)) (fun r => crG G (ys ++ r)))) ∧ Hid (Box wz bn (kN ys (5 - k))) ∧ Hid (Ph wo wz rb pb L (.slice ad L.length cap) (pgL ⟨a1, ⟨y1, y2, y3, y4, y5⟩, [], [], [], a2, a3, []⟩ ⟨.slice ra1 ks.length rc1, .slice ra2 ws.length rc2, .slice ra xs.length rc, .slice none 0 0⟩) s)) (fun z _ => match z with | .int _ z => ((5 : Int) - z).toNat | _ => 0)
                            case atStart => exact ⟨0, rfl, by omega, [], s, chid rfl, HX, HB1, HP1⟩
                            case round =>
                              obtain ⟨k, rfl, hk, ys, s', hyl, HX, HBx, HPy⟩ := hrel
                              clear HB1 HP1
                              by_cases hkt : k < 5
                              · have hkt' : (k : Int) < 5 := by omega
                                have HC := chid (rtake_c rb 8 (by decide) (by decide) L _ _ wr HPy.out.rd)
                                go_wp2_with fail
                                refine Calls.mono HC.out ?_
                                rintro e w9 ⟨rfl, t9, r9⟩
                                have HP9 := chid (HPy.out.call t9 r9)
                                have HB9 := HBx.out.turn t9 (by have := hbn.out.2; have := HPy.out.lt; simp; omega)
                                have HX2 := chid (many_step (rNum 8) 0 5 k hkt ys (fun r => crG G r) HX.out)
                                generalize oN (rNum 8) 0 s' = q at *
                                obtain ⟨y, s5⟩ := q
                                simp only at HX2 HP9 ⊢
                                have b0 := HB9.cell k _ (by have := kN_at ys (5 - k) (by omega); rwa [hyl.out] at this)
                                have b1 := HB9.free k (by rw [kN_len, hyl.out]; omega)
                                have b2 := HB9.lt
                                have HB10 : Hid (∀ u, u = .int .u64 (y : Nat) → Box (w9.setCell ⟨bn, k, none⟩ u) bn (kN (ys ++ [y]) (5 - (k + 1)))) := chid (fun u hu => by
                                  subst hu
                                  have h1 := HB9.set k (by rw [kN_len, hyl.out]; omega) (.int .u64 (y : Nat))
                                  have h2 := kN_set ys (5 - (k + 1)) y
                                  rw [hyl.out, show 5 - (k + 1) + 1 = 5 - k by omega] at h2
                                  rwa [h2] at h1)
                                clear HC HX HBx HPy HB9 t9 r9
                                go_wp2_with fail
                                refine ⟨⟨k + 1, by go_num, by omega, ys ++ [y], s5, chid (by simp [hyl.out]), HX2, chid (HB10.out _ rfl), chid (HP9.out.other hbn.out.1 hbn.out.2 _ _)⟩, ?_⟩
                                show ((5 : Int) - ((k : Int) + 1)).toNat < ((5 : Int) - (k : Int)).toNat
                                omega
                              · have hkt' : ¬ (k : Int) < 5 := by omega
                                obtain rfl : k = 5 := by omega
                                obtain ⟨y6, y7, y8, y9, y10, rfl⟩ := five_of hyl.out
                                have HX : Hid (rProg L = s'.bind (rBind (rMany rCron (N3 - (j + 1))) (fun r => cC a1 a2 a3 ⟨y1, y2, y3, y4, y5⟩ ks ws ((xs ++ [⟨y6, y7, y8, y9, y10⟩]) ++ r)))) := chid (by
                                  have h1 := many_end (rNum 8) 5 [y6, y7, y8, y9, y10] (fun r => crG G r) HX.out
                                  rw [HG.out] at h1
                                  exact h1)
                                have HBwr := HBx.out
                                have HPwr := HPy
                                clear HPy HBx HG
                                have x0 := HBwr.cell 0 _ rfl
                                have x1 := HBwr.cell 1 _ rfl
                                have x2 := HBwr.cell 2 _ rfl
                                have x3 := HBwr.cell 3 _ rfl
                                have x4 := HBwr.cell 4 _ rfl
                                have pc := HPwr.out.box.cell 8 _ rfl
                                have pl := HPwr.out.box.lt
                                have HOz := chid (HPwr.out.row HOw.out hbw.out)
                                have HPz := chid (HPx.out.trans HPwr.out)
                                have HLy := chid (lay_row HPz.out HOz.out hbw.out (⟨y6, y7, y8, y9, y10⟩ : Cr) #[.int .u64 (y6 : Nat), .int .u64 (y7 : Nat), .int .u64 (y8 : Nat), .int .u64 (y9 : Nat), .int .u64 (y10 : Nat)] rfl rfl)
                                have ps := HPz.out.tr.size
                                have hxb : xs.length ≤ 16384 := by rw [hxl.out]; omega
                                clear HPx HOw HPwr HBwr
                                go_wp2_with (at_builtin; refine wpList_append_lies _ rfl _ _ 28 rfl w31.heap.size 68 i0 (.agg #[.int .u64 0, .int .u64 0, .int .u64 0, .int .u64 0, .int .u64 0]) 5 40 Tryd.underlying28 hi hz0 hz1 hz2 rfl (by decide) (.slice ra xs.length rc) xs.length (flR (fun a : Cr => crL a) xs) (by first | rfl | simp [Act.eval]) HLy.out.1 ⟨wr.heap.size, 0, none⟩ 1 1 [.int .u64 (y6 : Nat), .int .u64 (y7 : Nat), .int .u64 (y8 : Nat), .int .u64 (y9 : Nat), .int .u64 (y10 : Nat)] (by first | rfl | simp [Act.eval]) rfl HLy.out.2.1 (by intro u hu; simp only [List.mem_cons, List.not_mem_nil, or_false] at hu; rcases hu with rfl | rfl | rfl | rfl | rfl <;> rfl) (by decide) (by unfold maxLen; omega) (by omega) (by simp; omega) _ rfl ?_; intro g1 c1 w5 o5 k5 a5 l5; have q5 := HLy.out.2.2 g1 c1 w5 o5 k5; have HP5 := chid q5.1; have HO5 := chid q5.2; have pc5 := HP5.out.box.cell 8 _ rfl; have pf5 := HP5.out.box.free 8 (by simp); have pl5 := HP5.out.box.lt; clear o5 k5 a5 l5 q5)
                                refine ⟨⟨j + 1, by go_num, by omega, xs ++ [(⟨y6, y7, y8, y9, y10⟩ : Cr)], s', some ⟨g1, 0, none⟩, c1, chid (by simp [hxl.out]), HX, chid (HO5.out _ _), chid ?_⟩, ?_⟩
                                · rw [List.length_append]
                                  exact HP5.out.set 8 (by simp) _
                                · show ((N3 : Int) - ((j : Int) + 1)).toNat < ((N3 : Int) - (j : Int)).toNat
                                  omega
                          · have hc : (decide ((j : Int) < (N3 : Int)) && !bad) = false := by
                              cases bad
                              · simp
                                simp at hgo
                                omega
                              · simp
                            rw [hc]
                            have HH : Hid (rProg L = s.bind (cC a1 a2 a3 ⟨y1, y2, y3, y4, y5⟩ ks ws xs)) := chid (by
                              cases bad
                              · have hjN : j = N3 := by simp at hgo; omega
                                have h1 := HX.out
                                rw [hjN] at h1
                                exact many_end rCron N3 xs (fun r => cC a1 a2 a3 ⟨y1, y2, y3, y4, y5⟩ ks ws r) h1
                              · have h1 := HX.out
                                rw [HSe.out] at h1 ⊢
                                exact h1)
                            have hNx : Hid (xs.length ≤ N3) := chid (by rw [hxl.out]; exact hj)
                            clear hc hgo HX HSe b2 hxl
                            go_wp2_with fail
                            obtain ⟨w40, rfl⟩ : ∃ x : World, x = wr := ⟨_, rfl⟩
                            obtain ⟨cs, rfl⟩ : ∃ x : List Cr, x = xs := ⟨_, rfl⟩
                            obtain ⟨ra3, rfl⟩ : ∃ x : Option Addr, x = ra := ⟨_, rfl⟩
                            obtain ⟨rc3, rfl⟩ : ∃ x : Nat, x = rc := ⟨_, rfl⟩
                            obtain ⟨s40, rfl⟩ : ∃ x : Option (List UInt8), x = s := ⟨_, rfl⟩
                            have hOK := chid (HPx.out.row hOK.out (by omega))
                            have hOW := chid (HPx.out.row hOW.out (by omega))
                            have hOC := chid (own_low (pb + 1) HOw.out (by have := hbw.out; omega))
                            have HF := chid (HF.out.ph HPx.out hrl.out)
                            have HP40 := chid HPx.out.base
                            clear HPx HOw hbw
                            have HH := chid (show rProg L = s40.bind (rBind (rList 16384 rIns) (cI a1 a2 a3 ⟨y1, y2, y3, y4, y5⟩ ks ws cs)) from HH.out)
                            have HC := chid (rfour_c rb 16384 (by decide) L _ _ w40 HP40.out.rd)
                            refine Calls.mono HC.out ?_
                            rintro e w41 ⟨rfl, t1, r1⟩
                            have HP41 := chid (HP40.out.call t1 r1)
                            have HH := chid (HH.out.trans (start_list 16384 (by decide) rIns (cI a1 a2 a3 ⟨y1, y2, y3, y4, y5⟩ ks ws cs) s40))
                            obtain ⟨N4, hNe, hNm⟩ := four_range 16384 s40
                            clear HC HP40 t1 r1
                            generalize oN (rFourM 16384) 0 s40 = q at *
                            obtain ⟨nv, s41⟩ := q
                            simp only at HH HP41 hNe ⊢
                            subst hNe
                            rw [show ((N4 : Int)).toNat = N4 by omega] at HH
                            go_wp2_with fail
                            have hOK := chid (HP41.out.row hOK.out (by omega))
                            have hOW := chid (HP41.out.row hOW.out (by omega))
                            have hOC := chid (HP41.out.row hOC.out (by omega))
                            have HF := chid (HF.out.ph HP41.out hrl.out)
                            have HP0 := chid HP41.out.base
                            have hbw : Hid (pb < w41.heap.size) := chid HP0.out.box.lt
                            clear HP41
                            go_loopw [15] (fun z wr => ∃ j : Nat, z = .int .i64 (j : Nat) ∧ j ≤ N4 ∧ ∃ (xs : List Ins) (s : Option (List UInt8)) (ra : Option Addr) (rc : Nat), Hid (xs.length = j) ∧ Hid (rProg L = s.bind (rBind (rMany rIns (N4 - j)) (fun r => cI a1 a2 a3 ⟨y1, y2, y3, y4, y5⟩ ks ws cs (xs ++ r)))) ∧ Hid (wr.ownsRow w41.heap.size 51 2 (.slice ra xs.length rc) xs.length (flR (fun a : Ins => inL a) xs)) ∧ Hid (Ph w41 wr rb pb L (.slice ad L.length cap) (pgL ⟨a1, ⟨y1, y2, y3, y4, y5⟩, [], [], [], a2, a3, []⟩ ⟨.slice ra1 ks.length rc1, .slice ra2 ws.length rc2, .slice ra3 cs.length rc3, .slice ra xs.length rc⟩) s)) (fun z _ => match z with | .int _ z => ((N4 : Int) - z).toNat | _ => 0)
                            case atStart => exact ⟨0, rfl, by omega, [], s41, none, 0, chid rfl, HH, chid (World.ownsRow_nil _ _ _ _), HP0⟩
                            case round =>
                              obtain ⟨j, rfl, hj, xs, s, ra, rc, hxl, HX, HOw, HPx⟩ := hrel
                              clear HH HP0
                              obtain ⟨ii, bad, hii, hse, hB⟩ := HPx.out.rd.st
                              have HSe := chid hse
                              clear hse
                              have b2 := hB.cell 2 _ rfl
                              clear hB hii
                              go_upto_region 42 with fail
                              go_cut [166] (fun v wx => v = .bool (decide ((j : Int) < (N4 : Int)) && !bad) ∧ wr = wx)
                              case first =>
                                by_cases hlt : (j : Int) < (N4 : Int)
                                · cases bad
                                  all_goals go_wp2_with fail
                                  all_goals go_meet
                                  all_goals exact ⟨by simp [hlt], rfl⟩
                                · go_wp2_with fail
                                  all_goals go_meet
                                  all_goals exact ⟨by simp at hlt ⊢; intro h; omega, rfl⟩
                              case rest =>
                                obtain ⟨rfl, rfl⟩ := hcut
                                by_cases hgo : j < N4 ∧ bad = false
                                · obtain ⟨hlt, rfl⟩ := hgo
                                  have hlt' : (j : Int) < (N4 : Int) := by omega
                                  have hc : (decide ((j : Int) < (N4 : Int)) && !false) = true := by simp; exact hlt
                                  rw [hc]
                                  clear hc HSe b2
                                  go_wp2_with fail
                                  obtain ⟨i0, hi, hz0, hz1, hz2⟩ := info_I'
                                  have HPwr := chid HPx.out.base
                                  have HX := chid ((many_next rIns N4 j hlt xs (fun r => cI a1 a2 a3 ⟨y1, y2, y3, y4, y5⟩ ks ws cs r) HX.out).trans (congrArg (fun f => s.bind f) (ins_split _)))
                                  have HC := chid (rtake_c rb 1 (by decide) (by decide) L _ _ wr HPwr.out.rd)
                                  refine Calls.mono HC.out ?_
                                  rintro e v1 ⟨rfl, t1, r1⟩
                                  have HPv1 := chid (HPwr.out.call t1 r1)
                                  have HX := chid (HX.out.trans (oN_bind (rNum 1) 0 _ _))
                                  have ho1 := oN_one s
                                  clear HC HPwr t1 r1
                                  generalize oN (rNum 1) 0 s = q at *
                                  obtain ⟨o1, s51⟩ := q
                                  simp only at HX HPv1 ho1 ⊢
                                  have hw1 : IntKind.i64.wrap (o1 : Int) = (o1 : Int) := by rw [IntKind.wrap_i64]; omega
                                  obtain ⟨bn, hbe⟩ : ∃ bn, Hid (bn = v1.heap.size) := ⟨_, chid rfl⟩
                                  have hbn : Hid (wr.heap.size ≤ bn ∧ pb < bn) := chid (by rw [hbe.out]; exact ⟨HPv1.out.tr.size, HPv1.out.box.lt⟩)
                                  have HBv2 := Box.new v1 [.int .i64 (o1 : Nat), .int .i64 0] 51
                                  have HPv2 := chid (HPv1.out.next (bel_alloc v1 (.cells #[.int .i64 (o1 : Nat), .int .i64 0] 51)))
                                  go_wp2_with fail
                                  obtain ⟨v2, hnw⟩ : ∃ x, Hid (x = v1.alloc (.cells #[.int .i64 (o1 : Nat), .int .i64 0] 51)) := ⟨_, chid rfl⟩
                                  rw [← hnw.out] at HPv2 ⊢
                                  have HBv2 : Box v2 bn [.int .i64 (o1 : Nat), .int .i64 0] := by rw [hnw.out, hbe.out]; exact HBv2
                                  rw [← hbe.out]
                                  clear hnw hbe HPv1
                                  have HC := chid (rtake8_c rb L _ _ v2 HPv2.out.rd)
                                  refine Calls.mono HC.out ?_
                                  rintro e v3 ⟨n, rfl, hn8, t1, r1⟩
                                  have HPv3 := chid (HPv2.out.call t1 r1)
                                  have HX := chid (HX.out.trans (oN_bind rEight 0 _ _))
                                  have HBv3 := HBv2.turn t1 (by have := hbn.out; have := HPv2.out.lt; simp; omega)
                                  clear HC HPv2 t1 r1 HBv2
                                  generalize oN rEight 0 s51 = q at *
                                  obtain ⟨m2, s52⟩ := q
                                  simp only at HX HPv3 hn8 ⊢
                                  have b0 := HBv3.free 1 (by simp)
                                  have b1 := HBv3.cell 1 _ rfl
                                  have b2 := HBv3.lt
                                  have x0 := HBv3.cell 0 _ rfl
                                  have pc := HPv3.out.box.cell 11 _ rfl
                                  have pl := HPv3.out.box.lt
                                  have HPz := chid (HPv3.out.other hbn.out.1 hbn.out.2 1 (.int .i64 m2))
                                  have HOz := chid (HPz.out.row HOw.out hbw.out)
                                  have HPz := chid (HPx.out.trans HPz.out)
                                  have HLy := chid (lay_row HPz.out HOz.out hbw.out ((((o1 : Nat) : Int), m2) : Ins) #[.int .i64 (o1 : Nat), .int .i64 m2] rfl (H := v3.heap.size) (by simp))
                                  have ps := HPz.out.tr.size
                                  have hpn : pb < bn := hbn.out.2
                                  simp only [World.size_setCell] at ps
                                  have hxb : xs.length ≤ 16384 := by rw [hxl.out]; omega
                                  clear HPx HOw HPv3 HBv3
                                  go_wp2_with (at_builtin; refine wpList_append_lies _ rfl _ _ 29 rfl w41.heap.size 51 i0 (.agg #[.int .i64 0, .int .i64 0]) 2 16 Tryd.underlying29 hi hz0 hz1 hz2 rfl (by decide) (.slice ra xs.length rc) xs.length (flR (fun a : Ins => inL a) xs) (by first | rfl | simp [Act.eval]) HLy.out.1 ⟨v3.heap.size, 0, none⟩ 1 1 [.int .i64 (o1 : Nat), .int .i64 m2] (by first | rfl | simp [Act.eval]) rfl HLy.out.2.1 (by intro u hu; simp only [List.mem_cons, List.not_mem_nil, or_false] at hu; rcases hu with rfl | rfl <;> rfl) (by decide) (by unfold maxLen; omega) (by omega) (by simp; omega) _ rfl ?_; intro g1 c1 w5 o5 k5 a5 l5; have q5 := HLy.out.2.2 g1 c1 w5 o5 k5; have HP5 := chid q5.1; have HO5 := chid q5.2; have pc5 := HP5.out.box.cell 11 _ rfl; have pf5 := HP5.out.box.free 11 (by simp); have pl5 := HP5.out.box.lt; clear o5 k5 a5 l5 q5)
                                  refine ⟨⟨j + 1, by go_num, by omega, xs ++ [((((o1 : Nat) : Int), m2) : Ins)], s52, some ⟨g1, 0, none⟩, c1, chid (by simp [hxl.out]), HX, chid (HO5.out _ _), chid ?_⟩, ?_⟩
                                  · rw [List.length_append]
                                    exact HP5.out.set 11 (by simp) _
                                  · show ((N4 : Int) - ((j : Int) + 1)).toNat < ((N4 : Int) - (j : Int)).toNat
                                    omega
                                · have hc : (decide ((j : Int) < (N4 : Int)) && !bad) = false := by
                                    cases bad
                                    · simp
                                      simp at hgo
                                      omega
                                    · simp
                                  rw [hc]
                                  have HH : Hid (rProg L = s.bind (cI a1 a2 a3 ⟨y1, y2, y3, y4, y5⟩ ks ws cs xs)) := chid (by
                                    cases bad
                                    · have hjN : j = N4 := by simp at hgo; omega
                                      have h1 := HX.out
                                      rw [hjN] at h1
                                      exact many_end rIns N4 xs (fun r => cI a1 a2 a3 ⟨y1, y2, y3, y4, y5⟩ ks ws cs r) h1
                                    · have h1 := HX.out
                                      rw [HSe.out] at h1 ⊢
                                      exact h1)
                                  have hNx : Hid (xs.length ≤ N4) := chid (by rw [hxl.out]; exact hj)
                                  clear hc hgo HX HSe b2 hxl
                                  obtain ⟨w50, rfl⟩ : ∃ x : World, x = wr := ⟨_, rfl⟩
                                  obtain ⟨is, rfl⟩ : ∃ x : List Ins, x = xs := ⟨_, rfl⟩
                                  obtain ⟨ra4, rfl⟩ : ∃ x : Option Addr, x = ra := ⟨_, rfl⟩
                                  obtain ⟨rc4, rfl⟩ : ∃ x : Nat, x = rc := ⟨_, rfl⟩
                                  obtain ⟨s50, rfl⟩ : ∃ x : Option (List UInt8), x = s := ⟨_, rfl⟩
                                  have hOK := chid (HPx.out.row hOK.out (by omega))
                                  have hOW := chid (HPx.out.row hOW.out (by omega))
                                  have hOC := chid (HPx.out.row hOC.out (by omega))
                                  have hOI := chid (own_low (pb + 1) HOw.out (by have := hbw.out; omega))
                                  have HF := chid (HF.out.ph HPx.out hrl.out)
                                  have HP50 := chid HPx.out.base
                                  clear HPx HOw hbw
                                  have HFF := HF
                                  have HX := chid HFF.out.box
                                  obtain ⟨ii, bad, hii, hse, hB⟩ := HP50.out.rd.st
                                  have e1 := hB.cell 1 _ rfl
                                  have e2 := hB.cell 2 _ rfl
                                  clear hB
                                  cases bad
                                  · have hs50 : Hid (s50 = some (L.drop ii)) := chid (by rw [hse]; rfl)
                                    clear hse
                                    by_cases hend : ii = L.length
                                    · subst hend
                                      have hne : ((L.length : Int) != (L.length : Int)) = false := by simp
                                      have HE : Hid (rProg L = some ((⟨a1, ⟨y1, y2, y3, y4, y5⟩, ks, ws, cs, a2, a3, is⟩ : PgP), [])) := chid (by
                                        rw [HH.out, hs50.out, List.drop_length]
                                        rfl)
                                      have HPg := chid HP50.out.box
                                      have p0 := HPg.out.cell 0 _ rfl
                                      have p1 := HPg.out.cell 1 _ rfl
                                      have p2 := HPg.out.cell 2 _ rfl
                                      have p3 := HPg.out.cell 3 _ rfl
                                      have p4 := HPg.out.cell 4 _ rfl
                                      have p5 := HPg.out.cell 5 _ rfl
                                      have p6 := HPg.out.cell 6 _ rfl
                                      have p7 := HPg.out.cell 7 _ rfl
                                      have p8 := HPg.out.cell 8 _ rfl
                                      have p9 := HPg.out.cell 9 _ rfl
                                      have p10 := HPg.out.cell 10 _ rfl
                                      have p11 := HPg.out.cell 11 _ rfl
                                      have ppl := HPg.out.lt
                                      clear HPg
                                      have z0 := HX.out.cell 0 _ rfl
                                      have zf0 := HX.out.free 0 (by simp)
                                      have z1 := HX.out.cell 1 _ rfl
                                      have zf1 := HX.out.free 1 (by simp)
                                      have z2 := HX.out.cell 2 _ rfl
                                      have zf2 := HX.out.free 2 (by simp)
                                      have z3 := HX.out.cell 3 _ rfl
                                      have zf3 := HX.out.free 3 (by simp)
                                      have z4 := HX.out.cell 4 _ rfl
                                      have zf4 := HX.out.free 4 (by simp)
                                      have z5 := HX.out.cell 5 _ rfl
                                      have zf5 := HX.out.free 5 (by simp)
                                      have z6 := HX.out.cell 6 _ rfl
                                      have zf6 := HX.out.free 6 (by simp)
                                      have z7 := HX.out.cell 7 _ rfl
                                      have zf7 := HX.out.free 7 (by simp)
                                      have z8 := HX.out.cell 8 _ rfl
                                      have zf8 := HX.out.free 8 (by simp)
                                      have z9 := HX.out.cell 9 _ rfl
                                      have zf9 := HX.out.free 9 (by simp)
                                      have z10 := HX.out.cell 10 _ rfl
                                      have zf10 := HX.out.free 10 (by simp)
                                      have z11 := HX.out.cell 11 _ rfl
                                      have zf11 := HX.out.free 11 (by simp)
                                      have zl := HX.out.lt
                                      have HQ := chid (ch12_ok (x0 := .int .i64 a1) (x1 := .int .i64 y1) (x2 := .int .i64 y2) (x3 := .int .i64 y3) (x4 := .int .i64 y4) (x5 := .int .i64 y5) (x6 := .slice ra1 ks.length rc1) (x7 := .slice ra2 ws.length rc2) (x8 := .slice ra3 cs.length rc3) (x9 := .int .i64 a2) (x10 := .int .i64 a3) (x11 := .slice ra4 is.length rc4) HX.out)
                                      obtain ⟨W', hW'⟩ : ∃ W', Hid (W' = ch12 w50 rs (.int .i64 a1) (.int .i64 y1) (.int .i64 y2) (.int .i64 y3) (.int .i64 y4) (.int .i64 y5) (.slice ra1 ks.length rc1) (.slice ra2 ws.length rc2) (.slice ra3 cs.length rc3) (.int .i64 a2) (.int .i64 a3) (.slice ra4 is.length rc4)) := ⟨_, chid rfl⟩
                                      rw [← hW'.out] at HQ
                                      go_wp2_with fail
                                      change bodyPost _ _ _ _ _ (ch12 w50 rs (.int .i64 a1) (.int .i64 y1) (.int .i64 y2) (.int .i64 y3) (.int .i64 y4) (.int .i64 y5) (.slice ra1 ks.length rc1) (.slice ra2 ws.length rc2) (.slice ra3 cs.length rc3) (.int .i64 a2) (.int .i64 a3) (.slice ra4 is.length rc4))
                                      rw [← hW'.out]
                                      clear z0 zf0 z1 zf1 z2 zf2 z3 zf3 z4 zf4 z5 zf5 z6 zf6 z7 zf7 z8 zf8 z9 zf9 z10 zf10 z11 zf11 zl
                                      have c0 := HQ.out.1.cell 0 _ rfl
                                      have c1 := HQ.out.1.cell 1 _ rfl
                                      have c2 := HQ.out.1.cell 2 _ rfl
                                      have c3 := HQ.out.1.cell 3 _ rfl
                                      have c4 := HQ.out.1.cell 4 _ rfl
                                      have c5 := HQ.out.1.cell 5 _ rfl
                                      have c6 := HQ.out.1.cell 6 _ rfl
                                      have c7 := HQ.out.1.cell 7 _ rfl
                                      have c8 := HQ.out.1.cell 8 _ rfl
                                      have c9 := HQ.out.1.cell 9 _ rfl
                                      have c10 := HQ.out.1.cell 10 _ rfl
                                      have c11 := HQ.out.1.cell 11 _ rfl
                                      have HQ2 := chid (HFF.out.bel.trans (HQ.out.2.below (by have := HFF.out.at0; simp; omega) HFF.out.bel.size))
                                      have HQT := chid HQ.out.2
                                      clear HQ
                                      simp [bodyPost, results, Tryd.results10, go_sem, *]
                                      refine HO.out _ (⟨a1, ⟨y1, y2, y3, y4, y5⟩, ks, ws, cs, a2, a3, is⟩ : PgP) [] (⟨.slice ra1 ks.length rc1, .slice ra2 ws.length rc2, .slice ra3 cs.length rc3, .slice ra4 is.length rc4⟩ : PgV) HQ2.out HE.out ?_
                                      have hr1 : rs ≤ pb := by have := hrl.out; have := HP50.out.lt; omega
                                      have hr2 := HFF.out.at0
                                      exact ⟨own_low _ (own_turn hOK.out HQT.out (fun b hb => by have := (hOK.out.lt b hb).1; simp; omega)) (by omega), own_low _ (own_turn hOW.out HQT.out (fun b hb => by have := (hOW.out.lt b hb).1; simp; omega)) (by omega), own_low _ (own_turn hOC.out HQT.out (fun b hb => by have := (hOC.out.lt b hb).1; simp; omega)) (by omega), own_low _ (own_turn hOI.out HQT.out (fun b hb => by have := (hOI.out.lt b hb).1; simp; omega)) (by omega)⟩
                                    · have HE : Hid (rProg L = none) := chid (by
                                        rw [HH.out, hs50.out]
                                        show rEnd _ (L.drop ii) = none
                                        unfold rEnd
                                        rw [if_neg (fun h => hend (by have := List.drop_eq_nil_iff.1 h; omega))])
                                      have hne : ((ii : Int) != (L.length : Int)) = true := by simp; omega
                                      have hne' : ¬ (ii : Int) = (L.length : Int) := by omega
                                      have z0 := HX.out.cell 0 _ rfl
                                      have zf0 := HX.out.free 0 (by simp)
                                      have z1 := HX.out.cell 1 _ rfl
                                      have zf1 := HX.out.free 1 (by simp)
                                      have z2 := HX.out.cell 2 _ rfl
                                      have zf2 := HX.out.free 2 (by simp)
                                      have z3 := HX.out.cell 3 _ rfl
                                      have zf3 := HX.out.free 3 (by simp)
                                      have z4 := HX.out.cell 4 _ rfl
                                      have zf4 := HX.out.free 4 (by simp)
                                      have z5 := HX.out.cell 5 _ rfl
                                      have zf5 := HX.out.free 5 (by simp)
                                      have z6 := HX.out.cell 6 _ rfl
                                      have zf6 := HX.out.free 6 (by simp)
                                      have z7 := HX.out.cell 7 _ rfl
                                      have zf7 := HX.out.free 7 (by simp)
                                      have z8 := HX.out.cell 8 _ rfl
                                      have zf8 := HX.out.free 8 (by simp)
                                      have z9 := HX.out.cell 9 _ rfl
                                      have zf9 := HX.out.free 9 (by simp)
                                      have z10 := HX.out.cell 10 _ rfl
                                      have zf10 := HX.out.free 10 (by simp)
                                      have z11 := HX.out.cell 11 _ rfl
                                      have zf11 := HX.out.free 11 (by simp)
                                      have zl := HX.out.lt
                                      have HQ := chid (ch12_ok (x0 := .int .i64 0) (x1 := .int .i64 0) (x2 := .int .i64 0) (x3 := .int .i64 0) (x4 := .int .i64 0) (x5 := .int .i64 0) (x6 := .slice none 0 0) (x7 := .slice none 0 0) (x8 := .slice none 0 0) (x9 := .int .i64 0) (x10 := .int .i64 0) (x11 := .slice none 0 0) HX.out)
                                      obtain ⟨W', hW'⟩ : ∃ W', Hid (W' = ch12 w50 rs (.int .i64 0) (.int .i64 0) (.int .i64 0) (.int .i64 0) (.int .i64 0) (.int .i64 0) (.slice none 0 0) (.slice none 0 0) (.slice none 0 0) (.int .i64 0) (.int .i64 0) (.slice none 0 0)) := ⟨_, chid rfl⟩
                                      rw [← hW'.out] at HQ
                                      go_wp2_with fail
                                      change bodyPost _ _ _ _ _ (ch12 w50 rs (.int .i64 0) (.int .i64 0) (.int .i64 0) (.int .i64 0) (.int .i64 0) (.int .i64 0) (.slice none 0 0) (.slice none 0 0) (.slice none 0 0) (.int .i64 0) (.int .i64 0) (.slice none 0 0))
                                      rw [← hW'.out]
                                      clear z0 zf0 z1 zf1 z2 zf2 z3 zf3 z4 zf4 z5 zf5 z6 zf6 z7 zf7 z8 zf8 z9 zf9 z10 zf10 z11 zf11 zl
                                      have c0 := HQ.out.1.cell 0 _ rfl
                                      have c1 := HQ.out.1.cell 1 _ rfl
                                      have c2 := HQ.out.1.cell 2 _ rfl
                                      have c3 := HQ.out.1.cell 3 _ rfl
                                      have c4 := HQ.out.1.cell 4 _ rfl
                                      have c5 := HQ.out.1.cell 5 _ rfl
                                      have c6 := HQ.out.1.cell 6 _ rfl
                                      have c7 := HQ.out.1.cell 7 _ rfl
                                      have c8 := HQ.out.1.cell 8 _ rfl
                                      have c9 := HQ.out.1.cell 9 _ rfl
                                      have c10 := HQ.out.1.cell 10 _ rfl
                                      have c11 := HQ.out.1.cell 11 _ rfl
                                      have HQ2 := chid (HFF.out.bel.trans (HQ.out.2.below (by have := HFF.out.at0; simp; omega) HFF.out.bel.size))
                                      have HQT := chid HQ.out.2
                                      clear HQ
                                      simp [bodyPost, results, Tryd.results10, go_sem, *]
                                      exact HP.out _ HQ2.out HE.out
                                  · have HE : Hid (rProg L = none) := chid (by rw [HH.out, hse]; rfl)
                                    clear hse
                                    have z0 := HX.out.cell 0 _ rfl
                                    have zf0 := HX.out.free 0 (by simp)
                                    have z1 := HX.out.cell 1 _ rfl
                                    have zf1 := HX.out.free 1 (by simp)
                                    have z2 := HX.out.cell 2 _ rfl
                                    have zf2 := HX.out.free 2 (by simp)
                                    have z3 := HX.out.cell 3 _ rfl
                                    have zf3 := HX.out.free 3 (by simp)
                                    have z4 := HX.out.cell 4 _ rfl
                                    have zf4 := HX.out.free 4 (by simp)
                                    have z5 := HX.out.cell 5 _ rfl
                                    have zf5 := HX.out.free 5 (by simp)
                                    have z6 := HX.out.cell 6 _ rfl
                                    have zf6 := HX.out.free 6 (by simp)
                                    have z7 := HX.out.cell 7 _ rfl
                                    have zf7 := HX.out.free 7 (by simp)
                                    have z8 := HX.out.cell 8 _ rfl
                                    have zf8 := HX.out.free 8 (by simp)
                                    have z9 := HX.out.cell 9 _ rfl
                                    have zf9 := HX.out.free 9 (by simp)
                                    have z10 := HX.out.cell 10 _ rfl
                                    have zf10 := HX.out.free 10 (by simp)
                                    have z11 := HX.out.cell 11 _ rfl
                                    have zf11 := HX.out.free 11 (by simp)
                                    have zl := HX.out.lt
                                    have HQ := chid (ch12_ok (x0 := .int .i64 0) (x1 := .int .i64 0) (x2 := .int .i64 0) (x3 := .int .i64 0) (x4 := .int .i64 0) (x5 := .int .i64 0) (x6 := .slice none 0 0) (x7 := .slice none 0 0) (x8 := .slice none 0 0) (x9 := .int .i64 0) (x10 := .int .i64 0) (x11 := .slice none 0 0) HX.out)
                                    obtain ⟨W', hW'⟩ : ∃ W', Hid (W' = ch12 w50 rs (.int .i64 0) (.int .i64 0) (.int .i64 0) (.int .i64 0) (.int .i64 0) (.int .i64 0) (.slice none 0 0) (.slice none 0 0) (.slice none 0 0) (.int .i64 0) (.int .i64 0) (.slice none 0 0)) := ⟨_, chid rfl⟩
                                    rw [← hW'.out] at HQ
                                    go_wp2_with fail
                                    change bodyPost _ _ _ _ _ (ch12 w50 rs (.int .i64 0) (.int .i64 0) (.int .i64 0) (.int .i64 0) (.int .i64 0) (.int .i64 0) (.slice none 0 0) (.slice none 0 0) (.slice none 0 0) (.int .i64 0) (.int .i64 0) (.slice none 0 0))
                                    rw [← hW'.out]
                                    clear z0 zf0 z1 zf1 z2 zf2 z3 zf3 z4 zf4 z5 zf5 z6 zf6 z7 zf7 z8 zf8 z9 zf9 z10 zf10 z11 zf11 zl
                                    have c0 := HQ.out.1.cell 0 _ rfl
                                    have c1 := HQ.out.1.cell 1 _ rfl
                                    have c2 := HQ.out.1.cell 2 _ rfl
                                    have c3 := HQ.out.1.cell 3 _ rfl
                                    have c4 := HQ.out.1.cell 4 _ rfl
                                    have c5 := HQ.out.1.cell 5 _ rfl
                                    have c6 := HQ.out.1.cell 6 _ rfl
                                    have c7 := HQ.out.1.cell 7 _ rfl
                                    have c8 := HQ.out.1.cell 8 _ rfl
                                    have c9 := HQ.out.1.cell 9 _ rfl
                                    have c10 := HQ.out.1.cell 10 _ rfl
                                    have c11 := HQ.out.1.cell 11 _ rfl
                                    have HQ2 := chid (HFF.out.bel.trans (HQ.out.2.below (by have := HFF.out.at0; simp; omega) HFF.out.bel.size))
                                    have HQT := chid HQ.out.2
                                    clear HQ
                                    simp [bodyPost, results, Tryd.results10, go_sem, *]
                                    exact HP.out _ HQ2.out HE.out
    · have HH := chid (HM.out.2 hn)
      have hn' : ¬ (n : Int) = 1668313905 := by omega
      have HFF := chid (HF.out.ph HP1.out hrl.out)
      have HX := chid HFF.out.box
      clear HM HP1 HF
      have z0 := HX.out.cell 0 _ rfl
      have zf0 := HX.out.free 0 (by simp)
      have z1 := HX.out.cell 1 _ rfl
      have zf1 := HX.out.free 1 (by simp)
      have z2 := HX.out.cell 2 _ rfl
      have zf2 := HX.out.free 2 (by simp)
      have z3 := HX.out.cell 3 _ rfl
      have zf3 := HX.out.free 3 (by simp)
      have z4 := HX.out.cell 4 _ rfl
      have zf4 := HX.out.free 4 (by simp)
      have z5 := HX.out.cell 5 _ rfl
      have zf5 := HX.out.free 5 (by simp)
      have z6 := HX.out.cell 6 _ rfl
      have zf6 := HX.out.free 6 (by simp)
      have z7 := HX.out.cell 7 _ rfl
      have zf7 := HX.out.free 7 (by simp)
      have z8 := HX.out.cell 8 _ rfl
      have zf8 := HX.out.free 8 (by simp)
      have z9 := HX.out.cell 9 _ rfl
      have zf9 := HX.out.free 9 (by simp)
      have z10 := HX.out.cell 10 _ rfl
      have zf10 := HX.out.free 10 (by simp)
      have z11 := HX.out.cell 11 _ rfl
      have zf11 := HX.out.free 11 (by simp)
      have zl := HX.out.lt
      have HQ := chid (ch12_ok (x0 := .int .i64 0) (x1 := .int .i64 0) (x2 := .int .i64 0) (x3 := .int .i64 0) (x4 := .int .i64 0) (x5 := .int .i64 0) (x6 := .slice none 0 0) (x7 := .slice none 0 0) (x8 := .slice none 0 0) (x9 := .int .i64 0) (x10 := .int .i64 0) (x11 := .slice none 0 0) HX.out)
      obtain ⟨W', hW'⟩ : ∃ W', Hid (W' = ch12 w1 rs (.int .i64 0) (.int .i64 0) (.int .i64 0) (.int .i64 0) (.int .i64 0) (.int .i64 0) (.slice none 0 0) (.slice none 0 0) (.slice none 0 0) (.int .i64 0) (.int .i64 0) (.slice none 0 0)) := ⟨_, chid rfl⟩
      rw [← hW'.out] at HQ
      go_wp2_with fail
      change bodyPost _ _ _ _ _ (ch12 w1 rs (.int .i64 0) (.int .i64 0) (.int .i64 0) (.int .i64 0) (.int .i64 0) (.int .i64 0) (.slice none 0 0) (.slice none 0 0) (.slice none 0 0) (.int .i64 0) (.int .i64 0) (.slice none 0 0))
      rw [← hW'.out]
      clear z0 zf0 z1 zf1 z2 zf2 z3 zf3 z4 zf4 z5 zf5 z6 zf6 z7 zf7 z8 zf8 z9 zf9 z10 zf10 z11 zf11 zl
      have c0 := HQ.out.1.cell 0 _ rfl
      have c1 := HQ.out.1.cell 1 _ rfl
      have c2 := HQ.out.1.cell 2 _ rfl
      have c3 := HQ.out.1.cell 3 _ rfl
      have c4 := HQ.out.1.cell 4 _ rfl
      have c5 := HQ.out.1.cell 5 _ rfl
      have c6 := HQ.out.1.cell 6 _ rfl
      have c7 := HQ.out.1.cell 7 _ rfl
      have c8 := HQ.out.1.cell 8 _ rfl
      have c9 := HQ.out.1.cell 9 _ rfl
      have c10 := HQ.out.1.cell 10 _ rfl
      have c11 := HQ.out.1.cell 11 _ rfl
      have HQ2 := chid (HFF.out.bel.trans (HQ.out.2.below (by have := HFF.out.at0; simp; omega) HFF.out.bel.size))
      have HQT := chid HQ.out.2
      clear HQ
      simp [bodyPost, results, Tryd.results10, go_sem, *]
      exact HP.out _ HQ2.out HH.out
end Go.Proofs.YthfnjlfhaibbeaaDoor

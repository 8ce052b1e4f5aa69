/- Package verify: the document's Head. -/
import Derived.Test.YthfnjlfhaibbeaaDoorVfA
import Derived.Test.YthfnjlfhaibbeaaDoorCrD
namespace Go.Proofs.YthfnjlfhaibbeaaDoor
open Go.RowKit

set_option maxHeartbeats 2000000 in
set_option maxRecDepth 20000 in
theorem rHead_c (g : PgP) (u : PgV) (w : World) (h : PgRd w g u) (ho : PgOk g) : Calls Tryd.prog 26 #[pgV g u] w fun e w' => e = .returned (.bool (headB cfB g)) ∧ Below w.heap.size w w' := by
  obtain ⟨X0, XB⟩ := one_box w 31 (pgL g u)
  have HX0 := chid X0
  have HB0 := chid XB
  have HR := chid (h.next XB)
  have HOk := chid ho
  obtain ⟨a1, c1, e1, hc1, hc2⟩ := RowsK.shape h.k
  obtain ⟨a2, c2, e2, hd1, hd2⟩ := RowsK.shape h.wi
  obtain ⟨a3, c3, e3, hf1, hf2⟩ := RowsK.shape h.cr
  obtain ⟨a4, c4, e4, hg1, hg2⟩ := RowsK.shape h.c
  obtain ⟨uk, uw, ur, uc⟩ := u
  simp only at e1 e2 e3 e4
  subst e1 e2 e3 e4
  obtain ⟨n1, hn1⟩ : ∃ n, Hid (n = g.K.length) := ⟨_, chid rfl⟩
  obtain ⟨n2, hn2⟩ : ∃ n, Hid (n = g.wins.length) := ⟨_, chid rfl⟩
  obtain ⟨n3, hn3⟩ : ∃ n, Hid (n = g.crons.length) := ⟨_, chid rfl⟩
  obtain ⟨n4, hn4⟩ : ∃ n, Hid (n = g.C.length) := ⟨_, chid rfl⟩
  rw [← hn1.out] at hc1
  rw [← hn2.out] at hd1
  rw [← hn3.out] at hf1
  rw [← hn4.out] at hg1
  clear h ho X0 XB
  obtain ⟨w0, hw0⟩ : ∃ x, Hid (x = w.alloc (.cells (pgL g (⟨.slice a1 g.K.length c1, .slice a2 g.wins.length c2, .slice a3 g.crons.length c3, .slice a4 g.C.length c4⟩ : PgV)).toArray 31)) := ⟨_, chid rfl⟩
  rw [← hw0.out] at HX0 HB0 HR
  rw [← hn1.out, ← hn2.out, ← hn3.out, ← hn4.out] at HX0 HR hw0 ⊢
  go_enter Tryd.func26, Tryd.ntmps26
  have z0 := HX0.out.cell 0 _ rfl
  have z1 := HX0.out.cell 1 _ rfl
  have z2 := HX0.out.cell 2 _ rfl
  have z3 := HX0.out.cell 3 _ rfl
  have z4 := HX0.out.cell 4 _ rfl
  have z5 := HX0.out.cell 5 _ rfl
  have z6 := HX0.out.cell 6 _ rfl
  have z7 := HX0.out.cell 7 _ rfl
  have z8 := HX0.out.cell 8 _ rfl
  have z9 := HX0.out.cell 9 _ rfl
  have z10 := HX0.out.cell 10 _ rfl
  have z11 := HX0.out.cell 11 _ rfl
  have zl := HX0.out.lt
  rw [hw0.out] at z0 z1 z2 z3 z4 z5 z6 z7 z8 z9 z10 z11 zl
  by_cases k0 : 0 ≤ g.met
  rotate_left
  · have k0_ := chid (show ¬ (0 ≤ g.met) from by omega)
    have dk0 : decide (g.met < 0) = true := by simp; omega
    have HE : Hid (headB cfB g = false) := chid (by unfold headB fewB; simp [k0_.out])
    go_wp2_with fail
    rw [← hw0.out]
    go_ret
    exact ⟨by rw [HE.out]; rfl, HB0.out⟩
  have dk0 : decide (g.met < 0) = false := by simp; omega
  have k0_ := chid (show 0 ≤ g.met from by omega)
  by_cases k1 : g.met ≤ 64
  rotate_left
  · have k1_ := chid (show ¬ (g.met ≤ 64) from by omega)
    have dk1 : decide (64 < g.met) = true := by simp; omega
    have HE : Hid (headB cfB g = false) := chid (by unfold headB fewB; simp [k0_.out, k1_.out])
    go_wp2_with fail
    rw [← hw0.out]
    go_ret
    exact ⟨by rw [HE.out]; rfl, HB0.out⟩
  have dk1 : decide (64 < g.met) = false := by simp; omega
  have k1_ := chid (show g.met ≤ 64 from by omega)
  have HC := chid (rRight5 g.ru.mn g.ru.mx g.ru.st g.ru.up g.ru.dn w0)
  go_wp2_with fail
  rw [← hw0.out]
  refine Calls.mono HC.out ?_
  rintro e w1 ⟨rfl, b1⟩
  have HB1 := chid (bel_to HB0.out b1)
  have HX1 := chid (HX0.out.next b1)
  have HR := chid (HR.out.next b1)
  clear z0 z1 z2 z3 z4 z5 z6 z7 z8 z9 z10 z11 zl
  clear HC b1 HX0 HB0 hw0
  cases b2 : rulesB g.ru.mn g.ru.mx g.ru.st g.ru.up g.ru.dn with
  | false =>
    have b2_ := chid b2
    clear b2
    have z0 := HX1.out.cell 0 _ rfl
    have z1 := HX1.out.cell 1 _ rfl
    have z2 := HX1.out.cell 2 _ rfl
    have z3 := HX1.out.cell 3 _ rfl
    have z4 := HX1.out.cell 4 _ rfl
    have z5 := HX1.out.cell 5 _ rfl
    have z6 := HX1.out.cell 6 _ rfl
    have z7 := HX1.out.cell 7 _ rfl
    have z8 := HX1.out.cell 8 _ rfl
    have z9 := HX1.out.cell 9 _ rfl
    have z10 := HX1.out.cell 10 _ rfl
    have z11 := HX1.out.cell 11 _ rfl
    have zl := HX1.out.lt
    have HE : Hid (headB cfB g = false) := chid (by unfold headB fewB; simp [k0_.out, k1_.out, show ruleB g.ru = false from b2_.out])
    go_wp2_with fail
    go_ret
    exact ⟨by rw [HE.out]; rfl, HB1.out⟩
  | true =>
  have b2_ := chid b2
  clear b2
  have z0 := HX1.out.cell 0 _ rfl
  have z1 := HX1.out.cell 1 _ rfl
  have z2 := HX1.out.cell 2 _ rfl
  have z3 := HX1.out.cell 3 _ rfl
  have z4 := HX1.out.cell 4 _ rfl
  have z5 := HX1.out.cell 5 _ rfl
  have z6 := HX1.out.cell 6 _ rfl
  have z7 := HX1.out.cell 7 _ rfl
  have z8 := HX1.out.cell 8 _ rfl
  have z9 := HX1.out.cell 9 _ rfl
  have z10 := HX1.out.cell 10 _ rfl
  have z11 := HX1.out.cell 11 _ rfl
  have zl := HX1.out.lt
  by_cases k2 : (n1 : Int) ≤ 16384
  rotate_left
  · have k2_ := chid (show ¬ (g.K.length ≤ 16384) from by have := hn1.out; omega)
    have dk2 : decide (16384 < (n1 : Int)) = true := by simp; omega
    have HE : Hid (headB cfB g = false) := chid (by unfold headB fewB; simp [k0_.out, k1_.out, show ruleB g.ru = true from b2_.out, k2_.out])
    go_wp2_with fail
    go_ret
    exact ⟨by rw [HE.out]; rfl, HB1.out⟩
  have dk2 : decide (16384 < (n1 : Int)) = false := by simp; omega
  have k2_ := chid (show g.K.length ≤ 16384 from by have := hn1.out; omega)
  by_cases k3 : (n2 : Int) ≤ 256
  rotate_left
  · have k3_ := chid (show ¬ (g.wins.length ≤ 256) from by have := hn2.out; omega)
    have dk3 : decide (256 < (n2 : Int)) = true := by simp; omega
    have HE : Hid (headB cfB g = false) := chid (by unfold headB fewB; simp [k0_.out, k1_.out, show ruleB g.ru = true from b2_.out, k2_.out, k3_.out])
    go_wp2_with fail
    go_ret
    exact ⟨by rw [HE.out]; rfl, HB1.out⟩
  have dk3 : decide (256 < (n2 : Int)) = false := by simp; omega
  have k3_ := chid (show g.wins.length ≤ 256 from by have := hn2.out; omega)
  by_cases k4 : (n3 : Int) ≤ 256
  rotate_left
  · have k4_ := chid (show ¬ (g.crons.length ≤ 256) from by have := hn3.out; omega)
    have dk4 : decide (256 < (n3 : Int)) = true := by simp; omega
    have HE : Hid (headB cfB g = false) := chid (by unfold headB fewB; simp [k0_.out, k1_.out, show ruleB g.ru = true from b2_.out, k2_.out, k3_.out, k4_.out])
    go_wp2_with fail
    go_ret
    exact ⟨by rw [HE.out]; rfl, HB1.out⟩
  have dk4 : decide (256 < (n3 : Int)) = false := by simp; omega
  have k4_ := chid (show g.crons.length ≤ 256 from by have := hn3.out; omega)
  have HS : Hid (winsB g.met g.wins = winsB g.met (g.wins.drop 0)) := chid rfl
  go_wp2_with fail
  clear z0 z1 z2 z3 z4 z5 z6 z7 z8 z9 z10 z11 zl
  go_loopw [3] (fun z wr => ∃ k : Nat, z = .int .i64 (k : Nat) ∧ k ≤ n2 ∧ Hid (winsB g.met g.wins = winsB g.met (g.wins.drop k)) ∧ Hid (Below w1.heap.size w1 wr)) (fun z _ => match z with | .int _ z => ((n2 : Int) - z).toNat | _ => 0)
  case atStart => exact ⟨0, rfl, by omega, HS, chid (Below.refl _ _)⟩
  case round =>
    obtain ⟨k, rfl, hk, HK, HBk⟩ := hrel
    clear HS
    have HXk := chid (HX1.out.next HBk.out)
    have HBw := chid (bel_to HB1.out HBk.out)
    have z0 := HXk.out.cell 0 _ rfl
    have z1 := HXk.out.cell 1 _ rfl
    have z2 := HXk.out.cell 2 _ rfl
    have z3 := HXk.out.cell 3 _ rfl
    have z4 := HXk.out.cell 4 _ rfl
    have z5 := HXk.out.cell 5 _ rfl
    have z6 := HXk.out.cell 6 _ rfl
    have z7 := HXk.out.cell 7 _ rfl
    have z8 := HXk.out.cell 8 _ rfl
    have z9 := HXk.out.cell 9 _ rfl
    have z10 := HXk.out.cell 10 _ rfl
    have z11 := HXk.out.cell 11 _ rfl
    have zl := HXk.out.lt
    by_cases hlt : k < n2
    · have hlt' : (k : Int) < (n2 : Int) := by omega
      have hkl : k < g.wins.length := by rw [← hn2.out]; exact hlt
      have hrow : WisAt wr (.slice a2 g.wins.length c2) g.wins := by
        have h1 := RowsK.next HR.out.wi HBk.out
        rw [hn2.out] at h1
        exact h1
      obtain ⟨b, off, cap, hv, -, -, hbl, hx⟩ := RowsK.open hrow (by omega)
      cases hv
      have hgd : g.wins.getD k wi0 = g.wins[k] := by simp [List.getD, hkl]
      have y0 := hx k hkl 0 _ rfl
      have y1 := hx k hkl 1 _ rfl
      have y2 := hx k hkl 2 _ rfl
      have y3 := hx k hkl 3 _ rfl
      rw [Nat.add_zero] at y0
      rw [hgd] at y0 y1 y2 y3
      have hd : g.wins.drop k = g.wins[k] :: g.wins.drop (k + 1) := List.drop_eq_getElem_cons hkl
      rw [hd] at HK
      generalize g.wins[k] = x at *
      clear hx hgd hd hrow
      have HK2 : Hid (winsB g.met g.wins = ((rightB x.m x.a x.s x.p && decide (x.m < g.met)) && winsB g.met (g.wins.drop (k + 1)))) := chid HK.out
      have HC := chid (fun W => fRight x.m x.a x.s x.p W)
      unfold tv at HC
      clear HK
      cases hr : rightB x.m x.a x.s x.p with
      | false =>
        rw [hr] at HK2 HC
        have HW : Hid (winsB g.met g.wins = false) := chid HK2.out
        clear hr
        go_wp2_with fail
        obtain ⟨f, hf1, hf2⟩ := calm wr
        have HF1 := chid hf1
        have HF2 := chid hf2
        have x0' := fun n => keepc (hf1 n) z0
        have x7' := fun n => keepc (hf1 n) z7
        have y0' := fun n => keepc (hf1 n) y0
        have y1' := fun n => keepc (hf1 n) y1
        have y2' := fun n => keepc (hf1 n) y2
        have y3' := fun n => keepc (hf1 n) y3
        clear hf1 hf2 z0 z1 z2 z3 z4 z5 z6 z7 z8 z9 z10 z11 zl y0 y1 y2 y3
        refine wp_region_calm f (by kernel_rfl) (by kernel_rfl) (HF2.out _ (Below.refl _ _).drew) ?_
        repeat (go_big_quiet_step (first | (go_at_call 46; with_reducible refine Calls.mono (HC.out _) ?_; rintro e W1 ⟨rfl, b5⟩; exact ⟨rfl, HF2.out _ (cbelow_on (HF1.out _) b5 (HF1.out _).size)⟩)))
        refine wpQuiet_nil ?_
        intro w6 hw6
        obtain ⟨n6, rfl⟩ := hw6
        have HBq := chid (HF1.out n6)
        clear x0' x7' y0' y1' y2' y3'
        generalize f n6 = w6 at *
        go_wp2_with fail
        go_ret
        exact ⟨by rw [show headB cfB g = false from by unfold headB; rw [HW.out]; simp]; rfl, bel_to HBw.out HBq.out⟩
      | true =>
        rw [hr] at HK2 HC
        clear hr
        by_cases hm : g.met ≤ x.m
        · have HW : Hid (winsB g.met g.wins = false) := chid (by rw [HK2.out, show decide (x.m < g.met) = false by simp; omega]; rfl)
          have hm2 : decide (g.met ≤ x.m) = true := decide_eq_true hm
          go_wp2_with fail
          obtain ⟨f, hf1, hf2⟩ := calm wr
          have HF1 := chid hf1
          have HF2 := chid hf2
          have x0' := fun n => keepc (hf1 n) z0
          have x7' := fun n => keepc (hf1 n) z7
          have y0' := fun n => keepc (hf1 n) y0
          have y1' := fun n => keepc (hf1 n) y1
          have y2' := fun n => keepc (hf1 n) y2
          have y3' := fun n => keepc (hf1 n) y3
          clear hf1 hf2 z0 z1 z2 z3 z4 z5 z6 z7 z8 z9 z10 z11 zl y0 y1 y2 y3
          refine wp_region_calm f (by kernel_rfl) (by kernel_rfl) (HF2.out _ (Below.refl _ _).drew) ?_
          repeat (go_big_quiet_step (first | (go_at_call 46; with_reducible refine Calls.mono (HC.out _) ?_; rintro e W1 ⟨rfl, b5⟩; exact ⟨rfl, HF2.out _ (cbelow_on (HF1.out _) b5 (HF1.out _).size)⟩)))
          refine wpQuiet_nil ?_
          intro w6 hw6
          obtain ⟨n6, rfl⟩ := hw6
          have HBq := chid (HF1.out n6)
          clear x0' x7' y0' y1' y2' y3'
          generalize f n6 = w6 at *
          go_wp2_with fail
          go_ret
          exact ⟨by rw [show headB cfB g = false from by unfold headB; rw [HW.out]; simp]; rfl, bel_to HBw.out HBq.out⟩
        · have HW : Hid (winsB g.met g.wins = winsB g.met (g.wins.drop (k + 1))) := chid (by rw [HK2.out, show decide (x.m < g.met) = true by simp; omega]; rfl)
          have hm2 : decide (g.met ≤ x.m) = false := decide_eq_false hm
          go_wp2_with fail
          obtain ⟨f, hf1, hf2⟩ := calm wr
          have HF1 := chid hf1
          have HF2 := chid hf2
          have x0' := fun n => keepc (hf1 n) z0
          have x7' := fun n => keepc (hf1 n) z7
          have y0' := fun n => keepc (hf1 n) y0
          have y1' := fun n => keepc (hf1 n) y1
          have y2' := fun n => keepc (hf1 n) y2
          have y3' := fun n => keepc (hf1 n) y3
          clear hf1 hf2 z0 z1 z2 z3 z4 z5 z6 z7 z8 z9 z10 z11 zl y0 y1 y2 y3
          refine wp_region_calm f (by kernel_rfl) (by kernel_rfl) (HF2.out _ (Below.refl _ _).drew) ?_
          repeat (go_big_quiet_step (first | (go_at_call 46; with_reducible refine Calls.mono (HC.out _) ?_; rintro e W1 ⟨rfl, b5⟩; exact ⟨rfl, HF2.out _ (cbelow_on (HF1.out _) b5 (HF1.out _).size)⟩)))
          refine wpQuiet_nil ?_
          intro w6 hw6
          obtain ⟨n6, rfl⟩ := hw6
          have HBq := chid (HF1.out n6)
          clear x0' x7' y0' y1' y2' y3'
          generalize f n6 = w6 at *
          go_wp2_with fail
          refine ⟨⟨k + 1, by go_num, by omega, HW, chid (bel_to HBk.out HBq.out)⟩, ?_⟩
          show ((n2 : Int) - ((k : Int) + 1)).toNat < ((n2 : Int) - (k : Int)).toNat
          omega
    · have hlt' : ¬ (k : Int) < (n2 : Int) := by omega
      obtain rfl : k = n2 := by omega
      have HW : Hid (winsB g.met g.wins = true) := chid (by rw [HK.out, hn2.out, List.drop_length]; rfl)
      have HS : Hid (g.crons.all cfB = (g.crons.drop 0).all cfB) := chid rfl
      obtain ⟨w2, rfl⟩ : ∃ x : World, x = wr := ⟨_, rfl⟩
      have HR2 := chid (HR.out.next HBk.out)
      clear HK HR
      go_wp2_with fail
      clear z0 z1 z2 z3 z4 z5 z6 z7 z8 z9 z10 z11 zl
      go_loopw [4] (fun z wr => ∃ j : Nat, z = .int .i64 (j : Nat) ∧ j ≤ n3 ∧ Hid (g.crons.all cfB = (g.crons.drop j).all cfB) ∧ Hid (Below w2.heap.size w2 wr)) (fun z _ => match z with | .int _ z => ((n3 : Int) - z).toNat | _ => 0)
      case atStart => exact ⟨0, rfl, by omega, HS, chid (Below.refl _ _)⟩
      case round =>
        obtain ⟨j, rfl, hj, HK, HBj⟩ := hrel
        clear HS
        have HXj := chid (HXk.out.next HBj.out)
        have HBz := chid (bel_to HBw.out HBj.out)
        have z0 := HXj.out.cell 0 _ rfl
        have z1 := HXj.out.cell 1 _ rfl
        have z2 := HXj.out.cell 2 _ rfl
        have z3 := HXj.out.cell 3 _ rfl
        have z4 := HXj.out.cell 4 _ rfl
        have z5 := HXj.out.cell 5 _ rfl
        have z6 := HXj.out.cell 6 _ rfl
        have z7 := HXj.out.cell 7 _ rfl
        have z8 := HXj.out.cell 8 _ rfl
        have z9 := HXj.out.cell 9 _ rfl
        have z10 := HXj.out.cell 10 _ rfl
        have z11 := HXj.out.cell 11 _ rfl
        have zl := HXj.out.lt
        by_cases hlt : j < n3
        · have hlt' : (j : Int) < (n3 : Int) := by omega
          have hkl : j < g.crons.length := by rw [← hn3.out]; exact hlt
          have hrow : CrsAt wr (.slice a3 g.crons.length c3) g.crons := by
            have h1 := RowsK.next HR2.out.cr HBj.out
            rw [hn3.out] at h1
            exact h1
          obtain ⟨b, off, cap, hv, -, -, hbl, hx⟩ := RowsK.open hrow (by omega)
          cases hv
          have hgd : g.crons.getD j cr0 = g.crons[j] := by simp [List.getD, hkl]
          have y0 := hx j hkl 0 _ rfl
          have y1 := hx j hkl 1 _ rfl
          have y2 := hx j hkl 2 _ rfl
          have y3 := hx j hkl 3 _ rfl
          have y4 := hx j hkl 4 _ rfl
          rw [Nat.add_zero] at y0
          rw [hgd] at y0 y1 y2 y3 y4
          have hd : g.crons.drop j = g.crons[j] :: g.crons.drop (j + 1) := List.drop_eq_getElem_cons hkl
          rw [hd] at HK
          have hft := HOk.out.crons _ (List.getElem_mem hkl)
          generalize g.crons[j] = x at *
          clear hx hgd hd hrow
          have HK2 : Hid (g.crons.all cfB = (cfB x && (g.crons.drop (j + 1)).all cfB)) := chid HK.out
          have HC := chid (rFormed_any x hft wr)
          clear HK hft
          go_wp2_with fail
          refine Calls.mono HC.out ?_
          rintro e w3 ⟨rfl, b2⟩
          have HB2 := chid (bel_to HBz.out b2)
          have HBq := chid (bel_to HBj.out b2)
          clear HC HBz HBj HXj y0 y1 y2 y3 y4 b2
          clear z0 z1 z2 z3 z4 z5 z6 z7 z8 z9 z10 z11 zl
          cases hr : cfB x with
          | false =>
            rw [hr] at HK2
            have HV : Hid (g.crons.all cfB = false) := chid HK2.out
            clear hr
            have HE : Hid (headB cfB g = false) := chid (by unfold headB; rw [HV.out]; simp)
            go_wp2_with fail
            go_ret
            exact ⟨by rw [HE.out]; rfl, HB2.out⟩
          | true =>
            rw [hr] at HK2
            clear hr
            have HV : Hid (g.crons.all cfB = (g.crons.drop (j + 1)).all cfB) := chid HK2.out
            go_wp2_with fail
            refine ⟨⟨j + 1, by go_num, by omega, HV, HBq⟩, ?_⟩
            show ((n3 : Int) - ((j : Int) + 1)).toNat < ((n3 : Int) - (j : Int)).toNat
            omega
        · have hlt' : ¬ (j : Int) < (n3 : Int) := by omega
          obtain rfl : j = n3 := by omega
          have HV : Hid (g.crons.all cfB = true) := chid (by rw [HK.out, hn3.out, List.drop_length]; rfl)
          by_cases k6 : 0 ≤ g.loc
          rotate_left
          · have k6_ := chid (show ¬ (0 ≤ g.loc) from by omega)
            have dk6 : decide (g.loc < 0) = true := by simp; omega
            have HE : Hid (headB cfB g = false) := chid (by unfold headB fewB; simp [k0_.out, k1_.out, show ruleB g.ru = true from b2_.out, k2_.out, k3_.out, k4_.out, HW.out, HV.out, k6_.out])
            go_wp2_with fail
            go_ret
            exact ⟨by rw [HE.out]; rfl, HBz.out⟩
          have dk6 : decide (g.loc < 0) = false := by simp; omega
          have k6_ := chid (show 0 ≤ g.loc from by omega)
          by_cases k7 : g.loc ≤ 256
          rotate_left
          · have k7_ := chid (show ¬ (g.loc ≤ 256) from by omega)
            have HE : Hid (headB cfB g = false) := chid (by unfold headB fewB; simp [k0_.out, k1_.out, show ruleB g.ru = true from b2_.out, k2_.out, k3_.out, k4_.out, HW.out, HV.out, k6_.out, k7_.out])
            go_wp2_with fail
            go_ret
            exact ⟨by rw [HE.out]; rfl, HBz.out⟩
          have k7_ := chid (show g.loc ≤ 256 from by omega)
          by_cases k8 : 0 ≤ g.h
          rotate_left
          · have k8_ := chid (show ¬ (0 ≤ g.h) from by omega)
            have HE : Hid (headB cfB g = false) := chid (by unfold headB fewB; simp [k0_.out, k1_.out, show ruleB g.ru = true from b2_.out, k2_.out, k3_.out, k4_.out, HW.out, HV.out, k6_.out, k7_.out, k8_.out])
            go_wp2_with fail
            go_ret
            exact ⟨by rw [HE.out]; rfl, HBz.out⟩
          have k8_ := chid (show 0 ≤ g.h from by omega)
          by_cases k9 : g.h ≤ 4096
          rotate_left
          · have k9_ := chid (show ¬ (g.h ≤ 4096) from by omega)
            have HE : Hid (headB cfB g = false) := chid (by unfold headB fewB; simp [k0_.out, k1_.out, show ruleB g.ru = true from b2_.out, k2_.out, k3_.out, k4_.out, HW.out, HV.out, k6_.out, k7_.out, k8_.out, k9_.out])
            go_wp2_with fail
            go_ret
            exact ⟨by rw [HE.out]; rfl, HBz.out⟩
          have k9_ := chid (show g.h ≤ 4096 from by omega)
          by_cases k10 : (1 : Int) ≤ (n4 : Int)
          rotate_left
          · have k10_ := chid (show ¬ (1 ≤ g.C.length) from by have := hn4.out; omega)
            have HE : Hid (headB cfB g = false) := chid (by unfold headB fewB; simp [k0_.out, k1_.out, show ruleB g.ru = true from b2_.out, k2_.out, k3_.out, k4_.out, HW.out, HV.out, k6_.out, k7_.out, k8_.out, k9_.out, k10_.out])
            go_wp2_with fail
            go_ret
            exact ⟨by rw [HE.out]; rfl, HBz.out⟩
          have k10_ := chid (show 1 ≤ g.C.length from by have := hn4.out; omega)
          have HE : Hid (headB cfB g = decide ((n4 : Int) ≤ 16384)) := chid (by unfold headB fewB; rw [hn4.out]; simp [k0_.out, k1_.out, show ruleB g.ru = true from b2_.out, k2_.out, k3_.out, k4_.out, HW.out, HV.out, k6_.out, k7_.out, k8_.out, k9_.out, k10_.out]; omega)
          go_wp2_with fail
          go_ret
          exact ⟨by rw [HE.out]; rfl, HBz.out⟩
end Go.Proofs.YthfnjlfhaibbeaaDoor

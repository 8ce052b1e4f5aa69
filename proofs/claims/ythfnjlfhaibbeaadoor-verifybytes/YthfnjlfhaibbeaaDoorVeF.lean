/- Package verify: the head of a program. -/
import Derived.Test.YthfnjlfhaibbeaaDoorVeA
import Derived.Test.YthfnjlfhaibbeaaDoorVeC
import Derived.Test.YthfnjlfhaibbeaaDoorVeR
import Derived.Test.YthfnjlfhaibbeaaDoorCwA
namespace Go.Proofs.YthfnjlfhaibbeaaDoor
open Go.RowKit

theorem bel_to {w a b : World} (h : Below w.heap.size w a) (k : Below a.heap.size a b) : Below w.heap.size w b := cbelow_on h k h.size
set_option maxRecDepth 20000 in
theorem few_c (g : PgP) (u : PgV) (w : World) (h : PgRd w g u) : Calls Tryd.prog 61 #[pgV g u] w fun e w' => e = .returned (.bool (fewB g)) ∧ Below w.heap.size w w' := by
  obtain ⟨a1, c1, e1, -⟩ := RowsK.shape h.k
  obtain ⟨a2, c2, e2, -⟩ := RowsK.shape h.wi
  obtain ⟨a3, c3, e3, -⟩ := RowsK.shape h.cr
  obtain ⟨a4, c4, e4, -⟩ := RowsK.shape h.c
  obtain ⟨uk, uw, ur, uc⟩ := u
  simp only at e1 e2 e3 e4
  subst e1 e2 e3 e4
  clear h
  unfold fewB
  generalize g.K.length = n1
  generalize g.wins.length = n2
  generalize g.crons.length = n3
  generalize g.C.length = n4
  by_cases h1 : (n1 : Int) ≤ 16384
  · skip
    by_cases h2 : (n2 : Int) ≤ 256
    · skip
      by_cases h3 : (n3 : Int) ≤ 256
      · skip
        by_cases h4 : (1 : Int) ≤ (n4 : Int)
        · skip
          by_cases h5 : (n4 : Int) ≤ 16384
          · skip
            have m0 : decide (n1 ≤ 16384) = true := by simp; omega
            have m1 : decide (n2 ≤ 256) = true := by simp; omega
            have m2 : decide (n3 ≤ 256) = true := by simp; omega
            have m3 : decide (1 ≤ n4) = true := by simp; omega
            have m4 : decide (n4 ≤ 16384) = true := by simp; omega
            rw [m0, m1, m2, m3, m4]
            clear m0 m1 m2 m3 m4
            go_enter Tryd.func61, Tryd.ntmps61
            go_wp2_with fail
            go_ret
            exact ⟨rfl, (Below.refl _ _).alloc (Nat.le_refl _) _⟩
          · skip
            have m0 : decide (n1 ≤ 16384) = true := by simp; omega
            have m1 : decide (n2 ≤ 256) = true := by simp; omega
            have m2 : decide (n3 ≤ 256) = true := by simp; omega
            have m3 : decide (1 ≤ n4) = true := by simp; omega
            have m4 : decide (n4 ≤ 16384) = false := by simp; omega
            rw [m0, m1, m2, m3, m4]
            clear m0 m1 m2 m3 m4
            go_enter Tryd.func61, Tryd.ntmps61
            go_wp2_with fail
            go_ret
            exact ⟨rfl, (Below.refl _ _).alloc (Nat.le_refl _) _⟩
        · skip
          have m0 : decide (n1 ≤ 16384) = true := by simp; omega
          have m1 : decide (n2 ≤ 256) = true := by simp; omega
          have m2 : decide (n3 ≤ 256) = true := by simp; omega
          have m3 : decide (1 ≤ n4) = false := by simp; omega
          rw [m0, m1, m2, m3]
          clear m0 m1 m2 m3
          go_enter Tryd.func61, Tryd.ntmps61
          go_wp2_with fail
          go_ret
          exact ⟨rfl, (Below.refl _ _).alloc (Nat.le_refl _) _⟩
      · skip
        have m0 : decide (n1 ≤ 16384) = true := by simp; omega
        have m1 : decide (n2 ≤ 256) = true := by simp; omega
        have m2 : decide (n3 ≤ 256) = false := by simp; omega
        rw [m0, m1, m2]
        clear m0 m1 m2
        go_enter Tryd.func61, Tryd.ntmps61
        go_wp2_with fail
        go_ret
        exact ⟨rfl, (Below.refl _ _).alloc (Nat.le_refl _) _⟩
    · skip
      have m0 : decide (n1 ≤ 16384) = true := by simp; omega
      have m1 : decide (n2 ≤ 256) = false := by simp; omega
      rw [m0, m1]
      clear m0 m1
      go_enter Tryd.func61, Tryd.ntmps61
      go_wp2_with fail
      go_ret
      exact ⟨rfl, (Below.refl _ _).alloc (Nat.le_refl _) _⟩
  · skip
    have m0 : decide (n1 ≤ 16384) = false := by simp; omega
    rw [m0]
    clear m0
    go_enter Tryd.func61, Tryd.ntmps61
    go_wp2_with fail
    go_ret
    exact ⟨rfl, (Below.refl _ _).alloc (Nat.le_refl _) _⟩
set_option maxHeartbeats 1000000 in
set_option maxRecDepth 20000 in
theorem wins_c (ws : List WiP) (m : Int) (v : Value) (w : World) (h : WisAt w v ws) : Calls Tryd.prog 62 #[v, .int .i64 m] w fun e w' => e = .returned (.bool (winsB m ws)) ∧ Below w.heap.size w w' := by
  have H := chid h
  obtain ⟨va, vc, rfl, hc1, hc2⟩ := RowsK.shape h
  clear h
  obtain ⟨N, hN⟩ : ∃ N, Hid (N = ws.length) := ⟨_, chid rfl⟩
  rw [← hN.out]
  rw [← hN.out] at H hc1
  have HS : Hid (winsB m ws = winsB m (ws.drop 0)) := chid rfl
  go_enter Tryd.func62, Tryd.ntmps62
  go_wp2_with fail
  go_loopw [9] (fun z wr => ∃ k : Nat, z = .int .i64 (k : Nat) ∧ k ≤ N ∧ Hid (winsB m ws = winsB m (ws.drop k)) ∧ Hid (Below w.heap.size w wr)) (fun z _ => match z with | .int _ z => ((N : Int) - z).toNat | _ => 0)
  case atStart => exact ⟨0, rfl, by omega, HS, chid (Below.refl _ _)⟩
  case round =>
    obtain ⟨k, rfl, hk, HK, HB⟩ := hrel
    clear HS
    by_cases hlt : k < N
    · have hlt' : (k : Int) < (N : Int) := by omega
      have hkl : k < ws.length := by rw [← hN.out]; exact hlt
      have hrow : WisAt wr (.slice va ws.length vc) ws := by
        have := RowsK.next H.out HB.out
        rw [hN.out] at this
        exact this
      obtain ⟨b, off, cap, hv, -, -, hbl, hx⟩ := RowsK.open hrow (by omega)
      cases hv
      have hgd : ws.getD k wi0 = ws[k] := by simp [List.getD, hkl]
      have y0 := hx k hkl 0 _ rfl
      have y1 := hx k hkl 1 _ rfl
      have y2 := hx k hkl 2 _ rfl
      have y3 := hx k hkl 3 _ rfl
      rw [Nat.add_zero] at y0
      rw [hgd] at y0 y1 y2 y3
      have hd : ws.drop k = ws[k] :: ws.drop (k + 1) := List.drop_eq_getElem_cons hkl
      rw [hd] at HK
      generalize ws[k] = x at *
      clear hx hgd hd hrow
      have HK2 : Hid (winsB m ws = ((rightB x.m x.a x.s x.p && decide (x.m < m)) && winsB m (ws.drop (k + 1)))) := chid HK.out
      obtain ⟨fb, fl⟩ := one_box wr 65 (wiL x)
      have HC := chid (wRight x.m x.a x.s x.p (wr.alloc (.cells (wiL x).toArray 65)))
      have HB1 := chid (bel_to HB.out fl)
      have HFb := chid fb
      clear HK fl
      go_wp2_with fail
      refine Calls.mono HC.out ?_
      rintro e w2 ⟨rfl, b2⟩
      have HB2 := chid (bel_to HB1.out b2)
      have fb := HFb.out.next b2
      have q0 := fb.cell 0 _ rfl
      have q1 := fb.cell 1 _ rfl
      have q2 := fb.cell 2 _ rfl
      have q3 := fb.cell 3 _ rfl
      clear HC HB1 HB fb b2
      cases hr : rightB x.m x.a x.s x.p with
      | false =>
        rw [hr] at HK2
        have HE : Hid (winsB m ws = false) := chid HK2.out
        clear hr
        go_wp2_with fail
        go_ret
        exact ⟨by rw [HE.out]; rfl, HB2.out⟩
      | true =>
        rw [hr] at HK2
        clear hr
        by_cases hm : m ≤ x.m
        · have HE : Hid (winsB m ws = false) := chid (by rw [HK2.out, show decide (x.m < m) = false by simp; omega]; rfl)
          go_wp2_with fail
          go_ret
          exact ⟨by rw [HE.out]; rfl, HB2.out⟩
        · have HE : Hid (winsB m ws = winsB m (ws.drop (k + 1))) := chid (by rw [HK2.out, show decide (x.m < m) = true by simp; omega]; rfl)
          go_wp2_with fail
          refine ⟨⟨k + 1, by go_num, by omega, HE, HB2⟩, ?_⟩
          show ((N : Int) - ((k : Int) + 1)).toNat < ((N : Int) - (k : Int)).toNat
          omega
    · have hlt' : ¬ (k : Int) < (N : Int) := by omega
      obtain rfl : k = N := by omega
      have HE : Hid (winsB m ws = true) := chid (by rw [HK.out, hN.out, List.drop_length]; rfl)
      go_wp2_with fail
      go_ret
      exact ⟨by rw [HE.out]; rfl, HB.out⟩
set_option maxHeartbeats 1000000 in
set_option maxRecDepth 20000 in
theorem crons_c (cs : List Cr) (hf : ∀ c, c ∈ cs → c.Fits) (v : Value) (w : World) (h : CrsAt w v cs) (hF : FldAt w) : Calls Tryd.prog 63 #[v] w fun e w' => e = .returned (.bool (cs.all cfB)) ∧ Below w.heap.size w w' := by
  have H := chid h
  have HFl := chid hF
  have HFt := chid hf
  obtain ⟨va, vc, rfl, hc1, hc2⟩ := RowsK.shape h
  clear h hF hf
  obtain ⟨N, hN⟩ : ∃ N, Hid (N = cs.length) := ⟨_, chid rfl⟩
  rw [← hN.out]
  rw [← hN.out] at H hc1
  have HS : Hid (cs.all cfB = (cs.drop 0).all cfB) := chid rfl
  go_enter Tryd.func63, Tryd.ntmps63
  go_wp2_with fail
  go_loopw [7] (fun z wr => ∃ k : Nat, z = .int .i64 (k : Nat) ∧ k ≤ N ∧ Hid (cs.all cfB = (cs.drop k).all cfB) ∧ Hid (Below w.heap.size w wr)) (fun z _ => match z with | .int _ z => ((N : Int) - z).toNat | _ => 0)
  case atStart => exact ⟨0, rfl, by omega, HS, chid (Below.refl _ _)⟩
  case round =>
    obtain ⟨k, rfl, hk, HK, HB⟩ := hrel
    clear HS
    by_cases hlt : k < N
    · have hlt' : (k : Int) < (N : Int) := by omega
      have hkl : k < cs.length := by rw [← hN.out]; exact hlt
      have hrow : CrsAt wr (.slice va cs.length vc) cs := by
        have := RowsK.next H.out HB.out
        rw [hN.out] at this
        exact this
      obtain ⟨b, off, cap, hv, -, -, hbl, hx⟩ := RowsK.open hrow (by omega)
      cases hv
      have hgd : cs.getD k cr0 = cs[k] := by simp [List.getD, hkl]
      have y0 := hx k hkl 0 _ rfl
      have y1 := hx k hkl 1 _ rfl
      have y2 := hx k hkl 2 _ rfl
      have y3 := hx k hkl 3 _ rfl
      have y4 := hx k hkl 4 _ rfl
      rw [Nat.add_zero] at y0
      rw [hgd] at y0 y1 y2 y3 y4
      have hd : cs.drop k = cs[k] :: cs.drop (k + 1) := List.drop_eq_getElem_cons hkl
      rw [hd] at HK
      have hft := HFt.out _ (List.getElem_mem hkl)
      generalize cs[k] = x at *
      clear hx hgd hd hrow
      have HK2 : Hid (cs.all cfB = (cfB x && (cs.drop (k + 1)).all cfB)) := chid HK.out
      obtain ⟨fb, fl⟩ := one_box wr 68 (crL x)
      have HC := chid (Formed_any x hft (wr.alloc (.cells (crL x).toArray 68)) ((HFl.out.later HB.out).later fl))
      have HB1 := chid (bel_to HB.out fl)
      clear HK fl hft fb
      go_wp2_with fail
      refine Calls.mono HC.out ?_
      rintro e w2 ⟨rfl, b2⟩
      have HB2 := chid (bel_to HB1.out b2)
      clear HC HB1 HB b2
      cases hr : cfB x with
      | false =>
        rw [hr] at HK2
        have HE : Hid (cs.all cfB = false) := chid HK2.out
        clear hr
        go_wp2_with fail
        go_ret
        exact ⟨by rw [HE.out]; rfl, HB2.out⟩
      | true =>
        rw [hr] at HK2
        clear hr
        have HE : Hid (cs.all cfB = (cs.drop (k + 1)).all cfB) := chid HK2.out
        go_wp2_with fail
        refine ⟨⟨k + 1, by go_num, by omega, HE, HB2⟩, ?_⟩
        show ((N : Int) - ((k : Int) + 1)).toNat < ((N : Int) - (k : Int)).toNat
        omega
    · have hlt' : ¬ (k : Int) < (N : Int) := by omega
      obtain rfl : k = N := by omega
      have HE : Hid (cs.all cfB = true) := chid (by rw [HK.out, hN.out, List.drop_length]; rfl)
      go_wp2_with fail
      go_ret
      exact ⟨by rw [HE.out]; rfl, HB.out⟩
set_option maxHeartbeats 1000000 in
set_option maxRecDepth 20000 in
theorem head_c (g : PgP) (u : PgV) (w : World) (h : PgRd w g u) (ho : PgOk g) (hF : FldAt w) : Calls Tryd.prog 43 #[pgV g u] w fun e w' => e = .returned (.bool (headB cfB g)) ∧ Below w.heap.size w w' := by
  obtain ⟨X0, XB⟩ := one_box w 31 (pgL g u)
  obtain ⟨uk, uw, ur, uc⟩ := u
  have HX0 := chid X0
  have HB0 := chid XB
  have HR := chid (h.next XB)
  have HFl := chid (hF.later XB)
  have HOk := chid ho
  clear h ho hF X0 XB
  obtain ⟨w0, hw0⟩ : ∃ x, Hid (x = w.alloc (.cells (pgL g ⟨uk, uw, ur, uc⟩).toArray 31)) := ⟨_, chid rfl⟩
  rw [← hw0.out] at HX0 HB0 HR HFl
  go_enter Tryd.func43, Tryd.ntmps43
  have z0 := HX0.out.cell 0 _ rfl
  have z1 := HX0.out.cell 1 _ rfl
  have z2 := HX0.out.cell 2 _ rfl
  have z3 := HX0.out.cell 3 _ rfl
  have z4 := HX0.out.cell 4 _ rfl
  have z5 := HX0.out.cell 5 _ rfl
  have z6 := HX0.out.cell 6 _ rfl
  have z7 := HX0.out.cell 7 _ rfl
  have z8 := HX0.out.cell 8 _ rfl
  have z9 := HX0.out.cell 9 _ rfl
  have z10 := HX0.out.cell 10 _ rfl
  have z11 := HX0.out.cell 11 _ rfl
  have zl := HX0.out.lt
  rw [hw0.out] at z0 z1 z2 z3 z4 z5 z6 z7 z8 z9 z10 z11 zl
  by_cases k0 : 0 ≤ g.met
  rotate_left
  · have k0_ := chid k0
    have HE : Hid (headB cfB g = false) := chid (by unfold headB; simp [k0_.out])
    go_wp2_with fail
    rw [← hw0.out]
    go_ret
    exact ⟨by rw [HE.out]; rfl, HB0.out⟩
  have k0_ := chid k0
  by_cases k1 : g.met ≤ 64
  rotate_left
  · have k1_ := chid k1
    have HE : Hid (headB cfB g = false) := chid (by unfold headB; simp [k0_.out, k1_.out])
    go_wp2_with fail
    rw [← hw0.out]
    go_ret
    exact ⟨by rw [HE.out]; rfl, HB0.out⟩
  have k1_ := chid k1
  have HC := chid (cRight5 g.ru.mn g.ru.mx g.ru.st g.ru.up g.ru.dn w0)
  go_wp2_with fail
  rw [← hw0.out]
  refine Calls.mono HC.out ?_
  rintro e w1 ⟨rfl, b1⟩
  have HB1 := chid (bel_to HB0.out b1)
  have HX1 := chid (HX0.out.next b1)
  have HR := chid (HR.out.next b1)
  have HFl := chid (HFl.out.later b1)
  clear z0 z1 z2 z3 z4 z5 z6 z7 z8 z9 z10 z11 zl
  clear HC b1
  cases b2 : rulesB g.ru.mn g.ru.mx g.ru.st g.ru.up g.ru.dn with
  | false =>
    have b2_ := chid b2
    clear b2
    have z0 := HX1.out.cell 0 _ rfl
    have z1 := HX1.out.cell 1 _ rfl
    have z2 := HX1.out.cell 2 _ rfl
    have z3 := HX1.out.cell 3 _ rfl
    have z4 := HX1.out.cell 4 _ rfl
    have z5 := HX1.out.cell 5 _ rfl
    have z6 := HX1.out.cell 6 _ rfl
    have z7 := HX1.out.cell 7 _ rfl
    have z8 := HX1.out.cell 8 _ rfl
    have z9 := HX1.out.cell 9 _ rfl
    have z10 := HX1.out.cell 10 _ rfl
    have z11 := HX1.out.cell 11 _ rfl
    have zl := HX1.out.lt
    have HE : Hid (headB cfB g = false) := chid (by unfold headB; simp [k0_.out, k1_.out, show ruleB g.ru = false from b2_.out])
    go_wp2_with fail
    go_ret
    exact ⟨by rw [HE.out]; rfl, HB1.out⟩
  | true =>
  have b2_ := chid b2
  clear b2
  have z0 := HX1.out.cell 0 _ rfl
  have z1 := HX1.out.cell 1 _ rfl
  have z2 := HX1.out.cell 2 _ rfl
  have z3 := HX1.out.cell 3 _ rfl
  have z4 := HX1.out.cell 4 _ rfl
  have z5 := HX1.out.cell 5 _ rfl
  have z6 := HX1.out.cell 6 _ rfl
  have z7 := HX1.out.cell 7 _ rfl
  have z8 := HX1.out.cell 8 _ rfl
  have z9 := HX1.out.cell 9 _ rfl
  have z10 := HX1.out.cell 10 _ rfl
  have z11 := HX1.out.cell 11 _ rfl
  have zl := HX1.out.lt
  have HC := chid (few_c g _ w1 HR.out)
  go_wp2_with fail
  refine Calls.mono HC.out ?_
  rintro e w2 ⟨rfl, b1⟩
  have HB2 := chid (bel_to HB1.out b1)
  have HX2 := chid (HX1.out.next b1)
  have HR := chid (HR.out.next b1)
  have HFl := chid (HFl.out.later b1)
  clear z0 z1 z2 z3 z4 z5 z6 z7 z8 z9 z10 z11 zl
  clear HC b1
  cases b3 : fewB g with
  | false =>
    have b3_ := chid b3
    clear b3
    have z0 := HX2.out.cell 0 _ rfl
    have z1 := HX2.out.cell 1 _ rfl
    have z2 := HX2.out.cell 2 _ rfl
    have z3 := HX2.out.cell 3 _ rfl
    have z4 := HX2.out.cell 4 _ rfl
    have z5 := HX2.out.cell 5 _ rfl
    have z6 := HX2.out.cell 6 _ rfl
    have z7 := HX2.out.cell 7 _ rfl
    have z8 := HX2.out.cell 8 _ rfl
    have z9 := HX2.out.cell 9 _ rfl
    have z10 := HX2.out.cell 10 _ rfl
    have z11 := HX2.out.cell 11 _ rfl
    have zl := HX2.out.lt
    have HE : Hid (headB cfB g = false) := chid (by unfold headB; simp [k0_.out, k1_.out, show ruleB g.ru = true from b2_.out, b3_.out])
    go_wp2_with fail
    go_ret
    exact ⟨by rw [HE.out]; rfl, HB2.out⟩
  | true =>
  have b3_ := chid b3
  clear b3
  have z0 := HX2.out.cell 0 _ rfl
  have z1 := HX2.out.cell 1 _ rfl
  have z2 := HX2.out.cell 2 _ rfl
  have z3 := HX2.out.cell 3 _ rfl
  have z4 := HX2.out.cell 4 _ rfl
  have z5 := HX2.out.cell 5 _ rfl
  have z6 := HX2.out.cell 6 _ rfl
  have z7 := HX2.out.cell 7 _ rfl
  have z8 := HX2.out.cell 8 _ rfl
  have z9 := HX2.out.cell 9 _ rfl
  have z10 := HX2.out.cell 10 _ rfl
  have z11 := HX2.out.cell 11 _ rfl
  have zl := HX2.out.lt
  have HC := chid (wins_c g.wins g.met _ w2 HR.out.wi)
  go_wp2_with fail
  refine Calls.mono HC.out ?_
  rintro e w3 ⟨rfl, b1⟩
  have HB3 := chid (bel_to HB2.out b1)
  have HX3 := chid (HX2.out.next b1)
  have HR := chid (HR.out.next b1)
  have HFl := chid (HFl.out.later b1)
  clear z0 z1 z2 z3 z4 z5 z6 z7 z8 z9 z10 z11 zl
  clear HC b1
  cases b4 : winsB g.met g.wins with
  | false =>
    have b4_ := chid b4
    clear b4
    have z0 := HX3.out.cell 0 _ rfl
    have z1 := HX3.out.cell 1 _ rfl
    have z2 := HX3.out.cell 2 _ rfl
    have z3 := HX3.out.cell 3 _ rfl
    have z4 := HX3.out.cell 4 _ rfl
    have z5 := HX3.out.cell 5 _ rfl
    have z6 := HX3.out.cell 6 _ rfl
    have z7 := HX3.out.cell 7 _ rfl
    have z8 := HX3.out.cell 8 _ rfl
    have z9 := HX3.out.cell 9 _ rfl
    have z10 := HX3.out.cell 10 _ rfl
    have z11 := HX3.out.cell 11 _ rfl
    have zl := HX3.out.lt
    have HE : Hid (headB cfB g = false) := chid (by unfold headB; simp [k0_.out, k1_.out, show ruleB g.ru = true from b2_.out, b3_.out, b4_.out])
    go_wp2_with fail
    go_ret
    exact ⟨by rw [HE.out]; rfl, HB3.out⟩
  | true =>
  have b4_ := chid b4
  clear b4
  have z0 := HX3.out.cell 0 _ rfl
  have z1 := HX3.out.cell 1 _ rfl
  have z2 := HX3.out.cell 2 _ rfl
  have z3 := HX3.out.cell 3 _ rfl
  have z4 := HX3.out.cell 4 _ rfl
  have z5 := HX3.out.cell 5 _ rfl
  have z6 := HX3.out.cell 6 _ rfl
  have z7 := HX3.out.cell 7 _ rfl
  have z8 := HX3.out.cell 8 _ rfl
  have z9 := HX3.out.cell 9 _ rfl
  have z10 := HX3.out.cell 10 _ rfl
  have z11 := HX3.out.cell 11 _ rfl
  have zl := HX3.out.lt
  have HC := chid (crons_c g.crons HOk.out.crons _ w3 HR.out.cr HFl.out)
  go_wp2_with fail
  refine Calls.mono HC.out ?_
  rintro e w4 ⟨rfl, b1⟩
  have HB4 := chid (bel_to HB3.out b1)
  have HX4 := chid (HX3.out.next b1)
  have HR := chid (HR.out.next b1)
  have HFl := chid (HFl.out.later b1)
  clear z0 z1 z2 z3 z4 z5 z6 z7 z8 z9 z10 z11 zl
  clear HC b1
  cases b5 : g.crons.all cfB with
  | false =>
    have b5_ := chid b5
    clear b5
    have z0 := HX4.out.cell 0 _ rfl
    have z1 := HX4.out.cell 1 _ rfl
    have z2 := HX4.out.cell 2 _ rfl
    have z3 := HX4.out.cell 3 _ rfl
    have z4 := HX4.out.cell 4 _ rfl
    have z5 := HX4.out.cell 5 _ rfl
    have z6 := HX4.out.cell 6 _ rfl
    have z7 := HX4.out.cell 7 _ rfl
    have z8 := HX4.out.cell 8 _ rfl
    have z9 := HX4.out.cell 9 _ rfl
    have z10 := HX4.out.cell 10 _ rfl
    have z11 := HX4.out.cell 11 _ rfl
    have zl := HX4.out.lt
    have HE : Hid (headB cfB g = false) := chid (by unfold headB; simp [k0_.out, k1_.out, show ruleB g.ru = true from b2_.out, b3_.out, b4_.out, b5_.out])
    go_wp2_with fail
    go_ret
    exact ⟨by rw [HE.out]; rfl, HB4.out⟩
  | true =>
  have b5_ := chid b5
  clear b5
  have z0 := HX4.out.cell 0 _ rfl
  have z1 := HX4.out.cell 1 _ rfl
  have z2 := HX4.out.cell 2 _ rfl
  have z3 := HX4.out.cell 3 _ rfl
  have z4 := HX4.out.cell 4 _ rfl
  have z5 := HX4.out.cell 5 _ rfl
  have z6 := HX4.out.cell 6 _ rfl
  have z7 := HX4.out.cell 7 _ rfl
  have z8 := HX4.out.cell 8 _ rfl
  have z9 := HX4.out.cell 9 _ rfl
  have z10 := HX4.out.cell 10 _ rfl
  have z11 := HX4.out.cell 11 _ rfl
  have zl := HX4.out.lt
  by_cases k6 : 0 ≤ g.loc
  rotate_left
  · have k6_ := chid k6
    have HE : Hid (headB cfB g = false) := chid (by unfold headB; simp [k0_.out, k1_.out, show ruleB g.ru = true from b2_.out, b3_.out, b4_.out, b5_.out, k6_.out])
    go_wp2_with fail
    go_ret
    exact ⟨by rw [HE.out]; rfl, HB4.out⟩
  have k6_ := chid k6
  by_cases k7 : g.loc ≤ 256
  rotate_left
  · have k7_ := chid k7
    have HE : Hid (headB cfB g = false) := chid (by unfold headB; simp [k0_.out, k1_.out, show ruleB g.ru = true from b2_.out, b3_.out, b4_.out, b5_.out, k6_.out, k7_.out])
    go_wp2_with fail
    go_ret
    exact ⟨by rw [HE.out]; rfl, HB4.out⟩
  have k7_ := chid k7
  by_cases k8 : 0 ≤ g.h
  rotate_left
  · have k8_ := chid k8
    have HE : Hid (headB cfB g = false) := chid (by unfold headB; simp [k0_.out, k1_.out, show ruleB g.ru = true from b2_.out, b3_.out, b4_.out, b5_.out, k6_.out, k7_.out, k8_.out])
    go_wp2_with fail
    go_ret
    exact ⟨by rw [HE.out]; rfl, HB4.out⟩
  have k8_ := chid k8
  have HE : Hid (headB cfB g = decide (g.h ≤ 4096)) := chid (by unfold headB; simp [k0_.out, k1_.out, show ruleB g.ru = true from b2_.out, b3_.out, b4_.out, b5_.out, k6_.out, k7_.out, k8_.out])
  go_wp2_with fail
  go_ret
  exact ⟨by rw [HE.out]; rfl, HB4.out⟩
end Go.Proofs.YthfnjlfhaibbeaaDoor

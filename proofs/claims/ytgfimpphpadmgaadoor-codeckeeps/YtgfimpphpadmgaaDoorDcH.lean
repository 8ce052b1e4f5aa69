/- Package codec: the document's Told. -/
import Derived.Test.YtgfimpphpadmgaaDoorDcG
namespace Go.Proofs.YtgfimpphpadmgaaDoor
open Go.RowKit

set_option maxHeartbeats 1000000 in
theorem rfits_c (n : Int) (w : World) : Calls Tryd.prog 35 #[.int .i64 n] w fun e w' => e = .returned (.bool (fitB n)) ∧ w' = w := by
  by_cases h1 : 0 ≤ n
  · by_cases h2 : n ≤ 2147483647
    · have e : fitB n = true := by simp [fitB, h1, h2]
      rw [e]
      go_enter Tryd.func35, Tryd.ntmps35
      go_wp2_with fail
      go_ret
      exact ⟨rfl, rfl⟩
    · have e : fitB n = false := by simp [fitB, h2]
      rw [e]
      go_enter Tryd.func35, Tryd.ntmps35
      go_wp2_with fail
      go_ret
      exact ⟨rfl, rfl⟩
  · have e : fitB n = false := by simp [fitB, h1]
    rw [e]
    go_enter Tryd.func35, Tryd.ntmps35
    go_wp2_with fail
    go_ret
    exact ⟨rfl, rfl⟩
set_option maxHeartbeats 1000000 in
set_option maxRecDepth 20000 in
theorem rtold_c (g : PgP) (v : PgV) (w : World) (h : PgRd w g v) :
    Calls Tryd.prog 19 #[pgV g v] w fun e w' => e = .returned (.bool (toldB g)) ∧ Below w.heap.size w w' := by
  obtain ⟨a1, c1, e1, l1, m1⟩ := RowsK.shape h.k
  obtain ⟨a2, c2, e2, l2, m2⟩ := RowsK.shape h.wi
  obtain ⟨a3, c3, e3, l3, m3⟩ := RowsK.shape h.cr
  obtain ⟨a4, c4, e4, l4, m4⟩ := RowsK.shape h.c
  obtain ⟨vk, vw, vr, vc⟩ := v
  simp only at e1 e2 e3 e4
  subst e1 e2 e3 e4
  obtain ⟨Y0, YB⟩ := one_box w 29 (pgL g ⟨.slice a1 g.K.length c1, .slice a2 g.wins.length c2, .slice a3 g.crons.length c3, .slice a4 g.C.length c4⟩)
  have HY := chid Y0
  have HB := chid YB
  have HR := chid (h.next YB)
  have hl1 : g.K.length ≤ 9223372036854775807 := by omega
  have hl2 : g.wins.length ≤ 9223372036854775807 := by omega
  have hl3 : g.crons.length ≤ 9223372036854775807 := by omega
  have hl4 : g.C.length ≤ 9223372036854775807 := by omega
  have x0 := Y0.cell 0 _ rfl
  have x9 := Y0.cell 9 _ rfl
  have x10 := Y0.cell 10 _ rfl
  have x6 := Y0.cell 6 _ rfl
  have x7 := Y0.cell 7 _ rfl
  have x8 := Y0.cell 8 _ rfl
  have x11 := Y0.cell 11 _ rfl
  have xl := Y0.lt
  obtain ⟨R, hR⟩ : ∃ R : Bool, Hid (R = toldB g) := ⟨_, chid rfl⟩
  rw [← hR.out]
  clear h Y0 YB l1 m1 l2 m2 l3 m3 l4 m4
  have FT := chid (fun n W' (h : fitB n = true) => by have := rfits_c n W'; rw [h] at this; exact this)
  have FF := chid (fun n W' (h : fitB n = false) => by have := rfits_c n W'; rw [h] at this; exact this)
  by_cases q0 : fitB g.met = false
  · have e : R = false := by rw [hR.out]; unfold toldB; rw [q0]; simp
    rw [e]
    clear hR HY HR
    go_enter Tryd.func19, Tryd.ntmps19
    go_wp2_with fail
    refine Calls.mono (FF.out _ _ q0) ?_
    rintro e w0 ⟨rfl, rfl⟩
    go_wp2_with fail
    go_ret
    exact ⟨rfl, HB.out⟩
  rw [Bool.not_eq_false] at q0
  by_cases q1 : fitB g.loc = false
  · have e : R = false := by rw [hR.out]; unfold toldB; rw [q1]; simp
    rw [e]
    clear hR HY HR
    go_enter Tryd.func19, Tryd.ntmps19
    go_wp2_with fail
    refine Calls.mono (FT.out _ _ q0) ?_
    rintro e w0 ⟨rfl, rfl⟩
    go_wp2_with fail
    refine Calls.mono (FF.out _ _ q1) ?_
    rintro e w1 ⟨rfl, rfl⟩
    go_wp2_with fail
    go_ret
    exact ⟨rfl, HB.out⟩
  rw [Bool.not_eq_false] at q1
  by_cases q2 : fitB g.h = false
  · have e : R = false := by rw [hR.out]; unfold toldB; rw [q2]; simp
    rw [e]
    clear hR HY HR
    go_enter Tryd.func19, Tryd.ntmps19
    go_wp2_with fail
    refine Calls.mono (FT.out _ _ q0) ?_
    rintro e w0 ⟨rfl, rfl⟩
    go_wp2_with fail
    refine Calls.mono (FT.out _ _ q1) ?_
    rintro e w1 ⟨rfl, rfl⟩
    go_wp2_with fail
    refine Calls.mono (FF.out _ _ q2) ?_
    rintro e w2 ⟨rfl, rfl⟩
    go_wp2_with fail
    go_ret
    exact ⟨rfl, HB.out⟩
  rw [Bool.not_eq_false] at q2
  by_cases q4 : 16384 < g.K.length
  · have e : R = false := by rw [hR.out]; unfold toldB fewL; simp; omega
    have q4' : (16384 : Int) < (g.K.length : Int) := by omega
    rw [e]
    clear hR HY HR
    go_enter Tryd.func19, Tryd.ntmps19
    go_wp2_with fail
    refine Calls.mono (FT.out _ _ q0) ?_
    rintro e w0 ⟨rfl, rfl⟩
    go_wp2_with fail
    refine Calls.mono (FT.out _ _ q1) ?_
    rintro e w1 ⟨rfl, rfl⟩
    go_wp2_with fail
    refine Calls.mono (FT.out _ _ q2) ?_
    rintro e w2 ⟨rfl, rfl⟩
    go_wp2_with fail
    go_ret
    exact ⟨rfl, HB.out⟩
  have q4' : ¬ (16384 : Int) < (g.K.length : Int) := by omega
  by_cases q5 : 256 < g.wins.length
  · have e : R = false := by rw [hR.out]; unfold toldB fewL; simp; omega
    have q5' : (256 : Int) < (g.wins.length : Int) := by omega
    rw [e]
    clear hR HY HR
    go_enter Tryd.func19, Tryd.ntmps19
    go_wp2_with fail
    refine Calls.mono (FT.out _ _ q0) ?_
    rintro e w0 ⟨rfl, rfl⟩
    go_wp2_with fail
    refine Calls.mono (FT.out _ _ q1) ?_
    rintro e w1 ⟨rfl, rfl⟩
    go_wp2_with fail
    refine Calls.mono (FT.out _ _ q2) ?_
    rintro e w2 ⟨rfl, rfl⟩
    go_wp2_with fail
    go_ret
    exact ⟨rfl, HB.out⟩
  have q5' : ¬ (256 : Int) < (g.wins.length : Int) := by omega
  by_cases q6 : 256 < g.crons.length
  · have e : R = false := by rw [hR.out]; unfold toldB fewL; simp; omega
    have q6' : (256 : Int) < (g.crons.length : Int) := by omega
    rw [e]
    clear hR HY HR
    go_enter Tryd.func19, Tryd.ntmps19
    go_wp2_with fail
    refine Calls.mono (FT.out _ _ q0) ?_
    rintro e w0 ⟨rfl, rfl⟩
    go_wp2_with fail
    refine Calls.mono (FT.out _ _ q1) ?_
    rintro e w1 ⟨rfl, rfl⟩
    go_wp2_with fail
    refine Calls.mono (FT.out _ _ q2) ?_
    rintro e w2 ⟨rfl, rfl⟩
    go_wp2_with fail
    go_ret
    exact ⟨rfl, HB.out⟩
  have q6' : ¬ (256 : Int) < (g.crons.length : Int) := by omega
  by_cases q7 : 16384 < g.C.length
  · have e : R = false := by rw [hR.out]; unfold toldB fewL; simp; omega
    have q7' : (16384 : Int) < (g.C.length : Int) := by omega
    rw [e]
    clear hR HY HR
    go_enter Tryd.func19, Tryd.ntmps19
    go_wp2_with fail
    refine Calls.mono (FT.out _ _ q0) ?_
    rintro e w0 ⟨rfl, rfl⟩
    go_wp2_with fail
    refine Calls.mono (FT.out _ _ q1) ?_
    rintro e w1 ⟨rfl, rfl⟩
    go_wp2_with fail
    refine Calls.mono (FT.out _ _ q2) ?_
    rintro e w2 ⟨rfl, rfl⟩
    go_wp2_with fail
    go_ret
    exact ⟨rfl, HB.out⟩
  have q7' : ¬ (16384 : Int) < (g.C.length : Int) := by omega
  have HF : Hid (fewL g = true) := chid (by unfold fewL; simp; omega)
  have HQ : Hid (fitB g.met = true ∧ fitB g.loc = true ∧ fitB g.h = true) := chid ⟨q0, q1, q2⟩
  clear q4 q5 q6 q7
  obtain ⟨gm, ⟨r0, r1, r2, r3, r4⟩, K, wins, crons, loc, hh, C⟩ := g
  simp only at *
  go_enter Tryd.func19, Tryd.ntmps19
  go_wp2_with fail
  refine Calls.mono (FT.out _ _ q0) ?_
  rintro e w0 ⟨rfl, rfl⟩
  go_wp2_with fail
  refine Calls.mono (FT.out _ _ q1) ?_
  rintro e w1 ⟨rfl, rfl⟩
  go_wp2_with fail
  refine Calls.mono (FT.out _ _ q2) ?_
  rintro e w2 ⟨rfl, rfl⟩
  go_wp2_with fail
  clear q0 q1 q2 x0 x9 x10 x6 x8
  generalize hW : w.alloc _ = W at *
  clear hW
  have HW := chid (Below.refl W.heap.size W)
  go_loopw [3] (fun i wr => ∃ (k : Nat), i = .int .i64 (k : Nat) ∧ k ≤ wins.length ∧ Hid (∀ j, j < k → ∀ x, wins[j]? = some x → (fitB x.m && fitB x.a) = true) ∧ Hid (Below W.heap.size W wr)) (fun i _ => match i with | .int _ z => ((wins.length : Int) - z).toNat | _ => 0)
  case atStart => exact ⟨0, rfl, by omega, chid (fun j hj => by omega), HW⟩
  case round =>
    obtain ⟨k, rfl, hk, HA, HW0⟩ := hrel
    have Y1 := HY.out.next HW0.out
    have y7 := Y1.cell 7 _ rfl
    have y11 := Y1.cell 11 _ rfl
    have yl := Y1.lt
    clear Y1
    by_cases hlt : k < wins.length
    · have hlt' : (k : Int) < (wins.length : Int) := by omega
      have hwk : IntKind.i64.wrap ((k : Int) + 1) = (k : Int) + 1 := by rw [IntKind.wrap_i64]; omega
      have hy : wins[k]? = some (wins.getD k wi0) := by simp [List.getD, hlt]
      obtain ⟨b, off, cap, hv, -, -, hbl, hx⟩ := RowsK.open HR.out.wi (show 0 < wins.length by omega)
      simp only [Value.slice.injEq] at hv
      obtain ⟨rfl, -, rfl⟩ := hv
      have z0 := keepc HW0.out (hx k hlt 0 _ rfl)
      have z1 := keepc HW0.out (hx k hlt 1 _ rfl)
      have bl := Nat.lt_of_lt_of_le hbl HW0.out.size
      rw [show off + k * 4 + 0 = off + k * 4 by omega] at z0
      clear hx hbl
      generalize wins.getD k wi0 = e at *
      have HY2 := chid hy
      clear hy
      cases hm : fitB e.m with
      | false =>
        have e1 : R = false := by
          rw [hR.out]
          unfold toldB
          rw [show (wins.all fun x => fitB x.m && fitB x.a) = false from List.all_eq_false.2 ⟨e, List.mem_of_getElem? HY2.out, by rw [hm]; simp⟩]
          simp
        go_wp2_with fail
        refine Calls.mono (FF.out _ _ hm) ?_
        rintro e' w1 ⟨rfl, rfl⟩
        go_wp2_with fail
        go_ret
        exact ⟨by first | rfl | (rw [e1]; rfl), cbelow_on HB.out HW0.out HB.out.size⟩
      | true =>
        cases ha : fitB e.a with
        | false =>
          have e1 : R = false := by
            rw [hR.out]
            unfold toldB
            rw [show (wins.all fun x => fitB x.m && fitB x.a) = false from List.all_eq_false.2 ⟨e, List.mem_of_getElem? HY2.out, by rw [ha]; simp⟩]
            simp
          go_wp2_with fail
          refine Calls.mono (FT.out _ _ hm) ?_
          rintro e' w1 ⟨rfl, rfl⟩
          go_wp2_with fail
          refine Calls.mono (FF.out _ _ ha) ?_
          rintro e' w1 ⟨rfl, rfl⟩
          go_wp2_with fail
          go_ret
          exact ⟨by first | rfl | (rw [e1]; rfl), cbelow_on HB.out HW0.out HB.out.size⟩
        | true =>
          go_wp2_with fail
          refine Calls.mono (FT.out _ _ hm) ?_
          rintro e' w1 ⟨rfl, rfl⟩
          go_wp2_with fail
          refine Calls.mono (FT.out _ _ ha) ?_
          rintro e' w1 ⟨rfl, rfl⟩
          go_wp2_with fail
          go_roundw
          case rel => exact ⟨k + 1, by go_num, by omega, chid (fun j hj x hx => by
            by_cases h : j = k
            · subst h
              rw [HY2.out] at hx
              cases hx
              rw [hm, ha]
              rfl
            · exact HA.out j (by omega) x hx), HW0⟩
          case measure => simp; omega
    · have hlt' : ¬ (k : Int) < (wins.length : Int) := by omega
      obtain rfl : k = wins.length := by omega
      have hw : (wins.all fun x => fitB x.m && fitB x.a) = true := by
        rw [List.all_eq_true]
        intro x hx
        obtain ⟨j, hj, rfl⟩ := List.mem_iff_getElem.1 hx
        exact HA.out j hj _ (List.getElem?_eq_getElem hj)
      have HWi := chid hw
      clear hw HA
      go_wp2_with fail
      clear y7 y11 yl
      go_loopw [4] (fun i wr => ∃ (k : Nat), i = .int .i64 (k : Nat) ∧ k ≤ C.length ∧ Hid (∀ j, j < k → ∀ x, C[j]? = some x → opB x.1 = true) ∧ Hid (Below W.heap.size W wr)) (fun i _ => match i with | .int _ z => ((C.length : Int) - z).toNat | _ => 0)
      case atStart => exact ⟨0, rfl, by omega, chid (fun j hj => by omega), HW0⟩
      case round =>
        obtain ⟨k, rfl, hk, HA, HW1⟩ := hrel
        have Y1 := HY.out.next HW1.out
        have y11 := Y1.cell 11 _ rfl
        have yl := Y1.lt
        clear Y1
        by_cases hlt : k < C.length
        · have hlt' : (k : Int) < (C.length : Int) := by omega
          have hwk : IntKind.i64.wrap ((k : Int) + 1) = (k : Int) + 1 := by rw [IntKind.wrap_i64]; omega
          have hy : C[k]? = some (C.getD k in0) := by simp [List.getD, hlt]
          obtain ⟨b, off, cap, hv, -, -, hbl, hx⟩ := RowsK.open HR.out.c (show 0 < C.length by omega)
          simp only [Value.slice.injEq] at hv
          obtain ⟨rfl, -, rfl⟩ := hv
          have z0 := keepc HW1.out (hx k hlt 0 _ rfl)
          have bl := Nat.lt_of_lt_of_le hbl HW1.out.size
          rw [show off + k * 2 + 0 = off + k * 2 by omega] at z0
          clear hx hbl
          generalize C.getD k in0 = e at *
          have HY2 := chid hy
          clear hy
          have hf : ∀ q : opB e.1 = false, R = false := fun q => by
            rw [hR.out]
            unfold toldB
            rw [show (C.all fun x => opB x.1) = false from List.all_eq_false.2 ⟨e, List.mem_of_getElem? HY2.out, by rw [q]; simp⟩]
            simp
          by_cases h1 : e.1 < 0
          · have e1 : R = false := hf (by simp [opB]; omega)
            clear hf
            go_wp2_with fail
            go_ret
            exact ⟨by first | rfl | (rw [e1]; rfl), cbelow_on HB.out HW1.out HB.out.size⟩
          · by_cases h2 : 255 < e.1
            · have e1 : R = false := hf (by simp [opB]; omega)
              clear hf
              go_wp2_with fail
              go_ret
              exact ⟨by first | rfl | (rw [e1]; rfl), cbelow_on HB.out HW1.out HB.out.size⟩
            · clear hf
              go_wp2_with fail
              go_roundw
              case rel => exact ⟨k + 1, by go_num, by omega, chid (fun j hj x hx => by
                by_cases h : j = k
                · subst h
                  rw [HY2.out] at hx
                  cases hx
                  simp [opB]
                  omega
                · exact HA.out j (by omega) x hx), HW1⟩
              case measure => simp; omega
        · have hlt' : ¬ (k : Int) < (C.length : Int) := by omega
          obtain rfl : k = C.length := by omega
          have hw : (C.all fun x => opB x.1) = true := by
            rw [List.all_eq_true]
            intro x hx
            obtain ⟨j, hj, rfl⟩ := List.mem_iff_getElem.1 hx
            exact HA.out j hj _ (List.getElem?_eq_getElem hj)
          have e1 : R = true := by
            rw [hR.out]
            unfold toldB
            rw [HWi.out, hw, HF.out, HQ.out.1, HQ.out.2.1, HQ.out.2.2]
            rfl
          go_wp2_with fail
          go_ret
          exact ⟨by first | rfl | (rw [e1]; rfl), cbelow_on HB.out HW1.out HB.out.size⟩
end Go.Proofs.YtgfimpphpadmgaaDoor

/- The laws of layer 21: few. -/
import Derived.Test.YtbddbnjhmdbkbaaGreatDoorCaCeB
namespace Go.Proofs.YtbddbnjhmdbkbaaGreatDoor
open Go.RowKit

set_option maxHeartbeats 2000000 in
set_option maxRecDepth 20000 in
theorem few21_c (p : PlP) (v : PlV) (w : World) (hs : PlAt w p v) (hL : p.gs.length * 96 ≤ 140737488355328) : Calls Tryz.prog 17 #[plV p v] w fun e w' => e = .returned (.bool (fewL p)) ∧ Below w.heap.size w w' := by
  have HC := chid (fun W (hW : Below w.heap.size w W) => rCores_c p v W (hs.next hW) hL)
  obtain ⟨a1, c1, a2, c2, a3, c3, a4, c4, a5, c5, rfl, g1, g2, g3, g4⟩ := hs.shapes
  have B0 := chid ((Below.refl w.heap.size w).alloc (Nat.le_refl _) (.cells (plL p ⟨.slice a1 p.mets.length c1, .slice a2 p.wins.length c2, .slice a3 p.crons.length c3, .slice a4 p.gs.length c4, .slice a5 p.fin.parts.length c5⟩).toArray 32))
  have HQ : Hid (fewL p = decide (fewF (coresP p) 0 ≤ 8192)) := chid rfl
  generalize fewL p = Q at *
  generalize coresP p = C at *
  clear hs g1 g2 g3 g4 hL
  go_enter Tryz.func17, Tryz.ntmps17
  go_wp2_with fail
  refine Calls.mono (HC.out _ B0.out) ?_
  rintro e w1 ⟨u, rfl, hu, b1⟩
  have B1 := chid (cbelow_on B0.out b1 B0.out.size)
  have HU := chid hu
  obtain ⟨ad, cap, rfl, hc1, hc2⟩ := hu.shape
  obtain ⟨N, hN⟩ : ∃ N, Hid (N = C.length) := ⟨_, rfl⟩
  rw [← hN.out] at HU hc1 ⊢
  clear hu b1 HC
  go_wp2_with fail
  go_loopw [4, 5] (fun n i wr => ∃ (k m : Nat), i = .int .i64 (k : Nat) ∧ n = .int .i64 (m : Nat) ∧ k ≤ N ∧ m ≤ 8193 ∧ Hid (fewF (C.drop k) m = fewF C 0) ∧ Hid (Below w1.heap.size w1 wr)) (fun _ i _ => match i with | .int _ p => ((N : Int) - p).toNat | _ => 0)
  case atStart => exact ⟨0, 0, rfl, rfl, by omega, by omega, chid rfl, Below.refl _ _⟩
  case round =>
    obtain ⟨k, m, rfl, rfl, hk, hm, HFw, HB⟩ := hrel
    have BW := chid (cbelow_on B1.out HB.out B1.out.size)
    by_cases hlt : k < N
    · have hlt' : (k : Int) < (N : Int) := by omega
      by_cases h16 : m ≤ 4096
      · have h16' : (m : Int) ≤ 4096 := by omega
        have hl1 : k < C.length := by rw [← hN.out]; exact hlt
        obtain ⟨b, off, cap', hv, -, -, hbl, hx⟩ := HU.out.open (by omega)
        simp only [Value.slice.injEq] at hv
        obtain ⟨rfl, -, rfl⟩ := hv
        obtain ⟨u, h6, hu⟩ := hx k hl1
        have y0 := keepc HB.out h6.c0
        have y1 := keepc HB.out h6.c1
        have y2 := keepc HB.out h6.c2
        have y3 := keepc HB.out h6.c3
        have lbr : b < wr.heap.size := Nat.lt_of_lt_of_le hbl HB.out.size
        have HCl := chid (crNodes_c C[k] u wr (hu.next HB.out))
        unfold cndsV at HCl
        have hmn : min (cnodes C[k]) 4097 ≤ 4097 := Nat.min_le_right _ _
        have HGo : Hid (fewF (C.drop (k + 1)) (m + min (cnodes C[k]) 4097) = fewF C 0) := chid (by rw [← fewF_go hl1 h16]; exact HFw.out)
        generalize min (cnodes C[k]) 4097 = M at *
        obtain ⟨au, cu, rfl, -, -⟩ := hu.parts.shape
        clear hx h6 hu
        generalize C[k] = x at *
        clear hl1
        obtain ⟨xk, xn, xm, xps⟩ := x
        dsimp only at *
        generalize xps.length = L at *
        go_wp2_with fail
        refine Calls.mono HCl.out ?_
        rintro e w2 ⟨rfl, b2⟩
        have B2 := chid (cbelow_on HB.out b2 HB.out.size)
        clear b2 HCl y0 y1 y2 y3
        obtain ⟨S, hS⟩ : ∃ S, Hid (S = m + M) := ⟨_, chid rfl⟩
        have i3 : (m : Int) + (M : Int) = (S : Int) := by have := hS.out; omega
        have i4 : (S : Int) ≤ 8193 := by have := hS.out; omega
        have hS2 : Hid (S ≤ 8193) := chid (by have := hS.out; omega)
        have HGo2 : Hid (fewF (C.drop (k + 1)) S = fewF C 0) := chid (by rw [hS.out]; exact HGo.out)
        clear hmn h16 hS hm HGo
        go_wp2_with fail
        go_roundw
        case rel => exact ⟨k + 1, S, by go_num, rfl, by omega, hS2.out, HGo2.out, B2.out⟩
        case measure => simp; omega
      · have h16' : ¬ (m : Int) ≤ 4096 := by omega
        have hQ1 : Hid (Q = decide ((m : Int) ≤ 8192)) := chid (by rw [HQ.out, ← HFw.out, fewF_big h16]; exact decide_eq_decide.2 ⟨fun h => by omega, fun h => by omega⟩)
        go_wp2_with fail
        all_goals go_ret
        all_goals exact ⟨by rw [hQ1.out]; rfl, BW.out⟩
    · have hlt' : ¬ (k : Int) < (N : Int) := by omega
      have hQ1 : Hid (Q = decide ((m : Int) ≤ 8192)) := chid (by
        rw [HQ.out, ← HFw.out, List.drop_eq_nil_of_le (by rw [← hN.out]; omega)]
        exact decide_eq_decide.2 ⟨fun h => by unfold fewF at h; omega, fun h => by unfold fewF; omega⟩)
      go_wp2_with fail
      all_goals go_ret
      all_goals exact ⟨by rw [hQ1.out]; rfl, BW.out⟩
end Go.Proofs.YtbddbnjhmdbkbaaGreatDoor

import Derived.Test.YtigldebdljfnbaaGreatDoorCqNbQ
import Derived.Test.YtigldebdljfnbaaGreatDoorCqNbP
namespace Go.Proofs.YtigldebdljfnbaaGreatDoor
open Go.RowKit

set_option maxHeartbeats 2000000 in
set_option maxRecDepth 20000 in
theorem few21_c (p : PlP) (v : PlV) (w : World) (hs : PlAt w p v) (hL : p.gs.length * 96 ≤ 140737488355328) : Calls Tryz.prog 6 #[plV p v] w fun e w' => e = .returned (.bool (fewL p)) ∧ Below w.heap.size w w' := by
  have HC := chid (fun W (hW : Below w.heap.size w W) => rCores_c p v W (hs.next hW) hL)
  obtain ⟨a1, c1, a2, c2, a3, c3, a4, c4, a5, c5, rfl, g1, g2, g3, g4⟩ := hs.shapes
  have B0 := chid ((Below.refl w.heap.size w).alloc (Nat.le_refl _) (.cells (plL p ⟨.slice a1 p.mets.length c1, .slice a2 p.wins.length c2, .slice a3 p.crons.length c3, .slice a4 p.gs.length c4, .slice a5 p.fin.parts.length c5⟩).toArray 32))
  have HQ : Hid (fewL p = decide (fewF (coresP p) 0 ≤ 8192)) := chid rfl
  generalize fewL p = Q at *
  generalize coresP p = C at *
  clear hs g1 g2 g3 g4 hL
  go_enter Tryz.func6, Tryz.ntmps6
  go_wp2_with fail
  refine Calls.mono (HC.out _ B0.out) ?_
  rintro e w1 ⟨u, rfl, hu, b1⟩
  have B1 := chid (cbelow_on B0.out b1 B0.out.size)
  have HU := chid hu
  obtain ⟨ad, cap, rfl, hc1, hc2⟩ := hu.shape
  obtain ⟨N, hN⟩ : ∃ N, Hid (N = C.length) := ⟨_, rfl⟩
  rw [← hN.out] at HU hc1 ⊢
  clear hu b1 HC
  go_wp2_with fail
  go_loopw [4, 5] (fun n i wr => ∃ (k m : Nat), i = .int .i64 (k : Nat) ∧ n = .int .i64 (m : Nat) ∧ k ≤ N ∧ m ≤ 8193 ∧ Hid (fewF (C.drop k) m = fewF C 0) ∧ Hid (Below w1.heap.size w1 wr)) (fun _ i _ => match i with | .int _ p => ((N : Int) - p).toNat | _ => 0)
  case atStart => exact ⟨0, 0, rfl, rfl, by omega, by omega, chid rfl, Below.refl _ _⟩
  case round =>
    obtain ⟨k, m, rfl, rfl, hk, hm, HFw, HB⟩ := hrel
    have BW := chid (cbelow_on B1.out HB.out B1.out.size)
    by_cases hlt : k < N
    · have hlt' : (k : Int) < (N : Int) := by omega
      by_cases h16 : m ≤ 4096
      · have h16' : (m : Int) ≤ 4096 := by omega
        have hl1 : k < C.length := by rw [← hN.out]; exact hlt
        obtain ⟨b, off, cap', hv, -, -, hbl, hx⟩ := HU.out.open (by omega)
        simp only [Value.slice.injEq] at hv
        obtain ⟨rfl, -, rfl⟩ := hv
        obtain ⟨u, h6, hu⟩ := hx k hl1
        have y0 := keepc HB.out h6.c0
        have y1 := keepc HB.out h6.c1
        have y2 := keepc HB.out h6.c2
        have y3 := keepc HB.out h6.c3
        have lbr : b < wr.heap.size := Nat.lt_of_lt_of_le hbl HB.out.size
        have HCl := chid (crNodes_c C[k] u wr (hu.next HB.out))
        unfold cndsV at HCl
        have hmn : min (cnodes C[k]) 4097 ≤ 4097 := Nat.min_le_right _ _
        have HGo : Hid (fewF (C.drop (k + 1)) (m + min (cnodes C[k]) 4097) = fewF C 0) := chid (by rw [← fewF_go hl1 h16]; exact HFw.out)
        generalize min (cnodes C[k]) 4097 = M at *
        obtain ⟨au, cu, rfl, -, -⟩ := hu.parts.shape
        clear hx h6 hu
        generalize C[k] = x at *
        clear hl1
        obtain ⟨xk, xn, xm, xps⟩ := x
        dsimp only at *
        generalize xps.length = L at *
        go_wp2_with fail
        refine Calls.mono HCl.out ?_
        rintro e w2 ⟨rfl, b2⟩
        have B2 := chid (cbelow_on HB.out b2 HB.out.size)
        clear b2 HCl y0 y1 y2 y3
        obtain ⟨S, hS⟩ : ∃ S, Hid (S = m + M) := ⟨_, chid rfl⟩
        have i3 : (m : Int) + (M : Int) = (S : Int) := by have := hS.out; omega
        have i4 : (S : Int) ≤ 8193 := by have := hS.out; omega
        have hS2 : Hid (S ≤ 8193) := chid (by have := hS.out; omega)
        have HGo2 : Hid (fewF (C.drop (k + 1)) S = fewF C 0) := chid (by rw [hS.out]; exact HGo.out)
        clear hmn h16 hS hm HGo
        go_wp2_with fail
        go_roundw
        case rel => exact ⟨k + 1, S, by go_num, rfl, by omega, hS2.out, HGo2.out, B2.out⟩
        case measure => simp; omega
      · have h16' : ¬ (m : Int) ≤ 4096 := by omega
        have hQ1 : Hid (Q = decide ((m : Int) ≤ 8192)) := chid (by rw [HQ.out, ← HFw.out, fewF_big h16]; exact decide_eq_decide.2 ⟨fun h => by omega, fun h => by omega⟩)
        go_wp2_with fail
        all_goals go_ret
        all_goals exact ⟨by rw [hQ1.out]; rfl, BW.out⟩
    · have hlt' : ¬ (k : Int) < (N : Int) := by omega
      have hQ1 : Hid (Q = decide ((m : Int) ≤ 8192)) := chid (by
        rw [HQ.out, ← HFw.out, List.drop_eq_nil_of_le (by rw [← hN.out]; omega)]
        exact decide_eq_decide.2 ⟨fun h => by unfold fewF at h; omega, fun h => by unfold fewF; omega⟩)
      go_wp2_with fail
      all_goals go_ret
      all_goals exact ⟨by rw [hQ1.out]; rfl, BW.out⟩

def EmitC : Prop := ∀ (q : Co → Co → Bool), (∀ a b, q a b = true ↔ a = b) → ∀ (p : PlP) (v : PlV) (w : World), PlAt w p v → FldAt w → PoAt w w.heap.size → p.wins.length * 32 ≤ 140737488355328 → p.crons.length * 40 ≤ 140737488355328 → C64 p.mets.length →
    Calls Tryz.prog 7 #[plV p v] w fun e w' => ∃ u, e = .returned (.tuple #[pgV (emitF q p).1 u, .int .i64 (emitF q p).2]) ∧ PgAt w' w.heap.size (emitF q p).1 u ∧ Below w.heap.size w w'
def plA : PlP := ⟨[], ⟨0, 1, 1, 0, 0⟩, [], [], 0, [], ⟨30, 0, 0, [⟨3, 0, 0, []⟩]⟩⟩
theorem plA_ord : plord plA = [⟨30, 0, 0, [⟨3, 0, 0, []⟩]⟩, ⟨3, 0, 0, []⟩] := by
  unfold plord plA
  simp [cpord_eq]
theorem plA_sort : soP plA plA.fin = 3 := by
  unfold soP plA
  rw [csort_eq]
  simp only [List.map_cons, List.map_nil]
  rw [csort_eq]
  rfl
theorem plA_formed (q : Co → Co → Bool) : formedP q plA = true := by
  have h1 : sizesB plA = true := by decide
  have h2 : fewB plA = true := by unfold fewB; rw [plA_ord]; decide
  have h3 : ruB plA.ru = true := by decide
  have h4 : listsB plA = true := by decide
  have h5 : sortsB plA = true := by unfold sortsB; rw [plA_sort]; decide
  have h6 : alikeB q plA = true := by unfold alikeB; rw [plA_ord]; rfl
  unfold formedP
  rw [h1, h2, h3, h4, h5, h6]
  rfl
theorem plA_cod : planM plA.gs plA.fin [] = ([(2, 0), (30, 0)], []) := by
  show codF ⟨30, 0, 0, [⟨3, 0, 0, []⟩]⟩ [] = _
  rw [codF_eq]
  simp only [List.map_cons, List.map_nil]
  rw [codF_eq]
  simp only [List.map_nil]
  rfl
theorem plA_hgt : plHgt plA = 1 := by
  unfold plHgt
  show max (hgtF ⟨30, 0, 0, [⟨3, 0, 0, []⟩]⟩) 0 = 1
  rw [hgtF_eq]
  unfold hP
  simp only [List.map_cons, List.map_nil]
  rw [hgtF_eq]
  rfl
theorem plA_emit (q : Co → Co → Bool) : emitF q plA = (⟨0, ⟨0, 1, 1, 0, 0⟩, [], [], [], 0, 1, [(2, 0), (30, 0)]⟩, 0) := by
  have e : progF plA = ⟨0, ⟨0, 1, 1, 0, 0⟩, [], [], [], 0, 1, [(2, 0), (30, 0)]⟩ := by
    unfold progF
    rw [plA_cod, plA_hgt]
    rfl
  unfold emitF
  rw [if_neg (by rw [plA_formed]; decide), e, if_neg (by decide)]
set_option maxHeartbeats 2000000 in
set_option maxRecDepth 20000 in
theorem awake21_c (HEm : EmitC) (w : World) (hF : FldAt w) (hP : PoAt w w.heap.size) : Calls Tryz.prog 5 #[] w fun r w' => r = .returned (.bool true) ∧ Below w.heap.size w w' := by
  classical
  obtain ⟨q, hq⟩ : ∃ q : Co → Co → Bool, ∀ a b, q a b = true ↔ a = b := ⟨fun a b => decide (a = b), fun a b => by simp⟩
  have HD := chid (fun W v (hW : Below w.heap.size w W) (hs : PlAt W plA v) => HEm q hq plA v W hs (hF.later hW) ⟨Nat.lt_of_lt_of_le hP.lt hW.size, Nat.lt_of_lt_of_le hP.lw hW.size, (hP.next hW).at'⟩ (by simp [plA]) (by simp [plA]) (by unfold C64; simp [plA]))
  simp only [plA_emit] at HD
  clear hF hP HEm
  go_enter Tryz.func5, Tryz.ntmps5
  go_wp2_with fail
  have X := Box.new w [.int .i64 3, .int .i64 0, .int .i64 0, .slice none 0 0] 30
  have ba := bel_alloc w (.cells #[.int .i64 3, .int .i64 0, .int .i64 0, .slice none 0 0] 30)
  have z64 : ∀ n : Int, (0 ≤ n ∧ n ≤ 100) → C64 n := fun n h => by unfold C64; omega
  have hs : PlAt (w.alloc (.cells #[.int .i64 3, .int .i64 0, .int .i64 0, .slice none 0 0] 30)) plA ⟨.slice none 0 0, .slice none 0 0, .slice none 0 0, .slice none 0 0, .slice (some ⟨w.heap.size, 0, none⟩) 1 1⟩ := by
    refine ⟨⟨z64 _ (by decide), z64 _ (by decide), z64 _ (by decide), z64 _ (by decide), z64 _ (by decide)⟩, z64 _ (by decide), (fun x hx => by cases hx), (fun x hx => by cases hx), ⟨none, 0, rfl, Nat.le_refl _, by omega, .inl rfl⟩, ⟨none, 0, rfl, Nat.le_refl _, by omega, .inl rfl⟩, ⟨none, 0, rfl, Nat.le_refl _, by omega, .inl rfl⟩, ⟨none, 0, rfl, Nat.le_refl _, by omega, .inl rfl⟩, ?_⟩
    refine csits_iff.2 ⟨⟨z64 _ (by decide), z64 _ (by decide), z64 _ (by decide)⟩, _, 1, rfl, by decide, by decide, .inr ⟨w.heap.size, 0, rfl, X.lt, fun i hi => ?_⟩⟩
    have hi0 : i = 0 := by simp [plA] at hi; omega
    subst hi0
    have hl : CSits (w.alloc (.cells #[.int .i64 3, .int .i64 0, .int .i64 0, .slice none 0 0] 30)) ⟨3, 0, 0, []⟩ (.slice none 0 0) := csits_iff.2 ⟨⟨z64 3 (by decide), z64 0 (by decide), z64 0 (by decide)⟩, none, 0, rfl, Nat.le_refl _, by omega, .inl rfl⟩
    exact ⟨.slice none 0 0, ⟨X.cell 0 _ rfl, X.cell 1 _ rfl, X.cell 2 _ rfl, X.cell 3 _ rfl⟩, hl⟩
  have HD2 := HD.out _ _ ba hs
  clear HD
  refine Calls.mono HD2 ?_
  rintro e w1 ⟨u, rfl, pu, b1⟩
  have B1 := chid (cbelow_on ba b1 ba.size)
  obtain ⟨ak, ck, e1⟩ := own_shape pu.k
  obtain ⟨aw, cw, e2⟩ := own_shape pu.wi
  obtain ⟨ar, cr, e3⟩ := own_shape pu.cr
  obtain ⟨vk, vw, vr, vc⟩ := u
  simp only at e1 e2 e3
  subst e1 e2 e3
  obtain ⟨g, cc, rfl, BX⟩ : ∃ g cc, vc = .slice (some ⟨g, 0, none⟩) 2 cc ∧ Box w1 g [.int .i64 2, .int .i64 0, .int .i64 30, .int .i64 0] := by
    obtain ⟨-, ⟨h2, h3⟩ | ⟨g, cap, cur, h2, h3, h4, h5, h6, h7, h8⟩⟩ := pu.c
    · cases h3
    · exact ⟨g, cap, h2, (Box.ofBlock h4).part (by have h9 := List.take_prefix (2 * 2) cur.toList; have h8' : cur.toList.take (2 * 2) = _ := h8; rw [h8'] at h9; exact h9)⟩
  have HBX := chid BX
  clear X ba hs pu b1 BX
  dsimp only [List.length_nil]
  clear HD2
  have c0 := HBX.out.cell 0 _ rfl
  have c1 := HBX.out.cell 1 _ rfl
  have c2 := HBX.out.cell 2 _ rfl
  have c3 := HBX.out.cell 3 _ rfl
  have cl := HBX.out.lt
  go_wp2_with fail
  go_ret
  exact ⟨rfl, B1.out.alloc B1.out.size _⟩
end Go.Proofs.YtigldebdljfnbaaGreatDoor

/- Package tree: fewNodes: the closure. -/
import Derived.Test.YtdikeicnefgjcaaDoorTqB
import Derived.Test.YtdikeicnefgjcaaDoorTrW
import Derived.Deep.RegionWith
namespace Go.Proofs.YtdikeicnefgjcaaDoor
open Go.RowKit

set_option maxRecDepth 20000 in
set_option maxHeartbeats 4000000 in
/-- One term of an item in the closure's round: what is left. -/
theorem few1_c {z : Nat} (i : It) (vx vy : Value) (g : Nat) (left : Int) (W w : World) (hW : Below W.heap.size W w) (hg : W.heap.size ≤ g) (h : ItAt z W i vx vy) (hb : Box w g [.int .i64 left]) (h0 : 0 ≤ left) (h1 : left ≤ 16384) (nx : nodes i.x ≤ 16384) (ny : nodes i.y ≤ 16384) :
    Calls Tryd.prog 68 #[itA i vx vy, .pointer (some ⟨g, 0, none⟩)] w fun e w' => e = .returned (.bool (decide (0 ≤ left - (cost i : Nat)))) ∧ Box w' g [.int .i64 (left - (cost i : Nat))] ∧ Turn [g] w w' := by
  have HZX := hid2 (fun wx (hb : Below W.heap.size W wx) => zeroTerm_c i.x vx wx (h.sx.next hb))
  have HZY := hid2 (fun wx (hb : Below W.heap.size W wx) => zeroTerm_c i.y vy wx (h.sy.next hb))
  have HNX : Hid (∀ wx, Below W.heap.size W wx → Calls Tryd.prog 15 #[tmV i.x vx] wx fun e w' => e = .returned (.int .i64 ((nodes i.x : Nat) : Int)) ∧ Below wx.heap.size wx w') := fun wx hb => by
    have := nodes_c i.x vx wx (h.sx.next hb)
    unfold ndsV at this
    rw [Nat.min_eq_left (by omega)] at this
    exact this
  have HNY : Hid (∀ wx, Below W.heap.size W wx → Calls Tryd.prog 15 #[tmV i.y vy] wx fun e w' => e = .returned (.int .i64 ((nodes i.y : Nat) : Int)) ∧ Below wx.heap.size wx w') := fun wx hb => by
    have := nodes_c i.y vy wx (h.sy.next hb)
    unfold ndsV at this
    rw [Nat.min_eq_left (by omega)] at this
    exact this
  obtain ⟨a1, c1, rfl, -, -⟩ := h.sx.parts.shape
  obtain ⟨a2, c2, rfl, -, -⟩ := h.sy.parts.shape
  obtain ⟨qx, hqx⟩ : ∃ q : Bool, Hid (q = voidB i.x) := ⟨_, hid2 rfl⟩
  obtain ⟨qy, hqy⟩ : ∃ q : Bool, Hid (q = voidB i.y) := ⟨_, hid2 rfl⟩
  rw [← hqx.out] at HZX
  rw [← hqy.out] at HZY
  obtain ⟨mx, hmx⟩ : ∃ n : Nat, Hid (n = nodes i.x) := ⟨_, hid2 rfl⟩
  obtain ⟨my, hmy⟩ : ∃ n : Nat, Hid (n = nodes i.y) := ⟨_, hid2 rfl⟩
  rw [← hmx.out] at HNX nx
  rw [← hmy.out] at HNY ny
  obtain ⟨cx, hcx⟩ : ∃ n : Nat, Hid (n = if qx = true then 0 else mx) := ⟨_, hid2 rfl⟩
  obtain ⟨cy, hcy⟩ : ∃ n : Nat, Hid (n = if qy = true then 0 else my) := ⟨_, hid2 rfl⟩
  have hcx2 : cx ≤ 16384 := by rw [hcx.out]; split <;> omega
  have hcy2 : cy ≤ 16384 := by rw [hcy.out]; split <;> omega
  have HCo : cost i = cx + cy := by unfold cost costT; rw [hcx.out, hcy.out, hqx.out, hqy.out, hmx.out, hmy.out]
  rw [HCo]
  obtain ⟨tot, htot⟩ : ∃ n : Int, Hid (n = left - ((cx + cy : Nat) : Int)) := ⟨_, hid2 rfl⟩
  rw [← htot.out]
  obtain ⟨X0, X1, XB⟩ := two_boxes w 32 24 [.int .i64 i.kind, .string i.name, .string i.unit, .int .i64 i.a, .int .i64 i.b, .int .i64 i.c, .int .i64 i.x.kind, .string i.x.text, .int .i64 i.x.n, .int .i64 i.x.m, .int .i64 i.x.pl, .slice a1 i.x.parts.length c1, .int .i64 i.y.kind, .string i.y.text, .int .i64 i.y.n, .int .i64 i.y.m, .int .i64 i.y.pl, .slice a2 i.y.parts.length c2, .int .i64 i.pl] [.int .i64 i.x.kind, .string i.x.text, .int .i64 i.x.n, .int .i64 i.x.m, .int .i64 i.x.pl, .slice a1 i.x.parts.length c1, .int .i64 i.y.kind, .string i.y.text, .int .i64 i.y.n, .int .i64 i.y.m, .int .i64 i.y.pl, .slice a2 i.y.parts.length c2]
  have BR := hid2 X1
  have BB := hid2 XB
  have GB0 := hid2 (hb.next XB)
  have HW := hid2 hW
  have HG := hid2 hg
  have lg0 := hb.lt
  clear h hb X0 X1 XB HCo hqx hqy hmx hmy hW hg
  go_enter Tryd.func68, Tryd.ntmps68
  go_wp2_with fail
  go_loopw [12] (fun k wr => ∃ (j : Nat) (lf : Int), k = .int .i64 (j : Nat) ∧ j ≤ 2 ∧ Hid ((j = 0 → lf = left) ∧ (j = 1 → lf = left - (cx : Nat)) ∧ (j = 2 → lf = tot)) ∧ Hid (Box wr g [.int .i64 lf]) ∧ Hid (Box wr (w.heap.size + 1) [.int .i64 i.x.kind, .string i.x.text, .int .i64 i.x.n, .int .i64 i.x.m, .int .i64 i.x.pl, .slice a1 i.x.parts.length c1, .int .i64 i.y.kind, .string i.y.text, .int .i64 i.y.n, .int .i64 i.y.m, .int .i64 i.y.pl, .slice a2 i.y.parts.length c2]) ∧ Hid (Turn [g] w wr)) (fun k _ => match k with | .int _ p => ((2 : Int) - p).toNat | _ => 0)
  case atStart => exact ⟨0, left, rfl, by omega, hid2 ⟨fun _ => rfl, fun h => by omega, fun h => by omega⟩, GB0, BR, Turn.of_below BB.out⟩
  case round =>
    obtain ⟨j, lf, rfl, hj, HJ, GB, RB, TW⟩ := hrel
    have hBW : Below W.heap.size W wr := HW.out.trans (TW.out.below (fun k hk => by simp at hk; have := HG.out; omega) HW.out.size)
    have HBW := hid2 hBW
    have lr := RB.out.lt
    have lg := GB.out.lt
    clear hBW
    by_cases hj2 : j = 2
    · subst hj2
      have e2 := HJ.out.2.2 rfl
      obtain rfl := e2.symm
      have c0 := GB.out.cell 0 _ rfl
      have HP : Hid (Box wr g [.int .i64 tot] ∧ Turn [g] w wr) := ⟨GB.out, TW.out⟩
      clear HZX HZY HNX HNY HJ GB RB TW BR BB GB0
      go_wp2_with fail
      go_ret
      exact ⟨rfl, HP.out.1, HP.out.2⟩
    · by_cases hj0 : j = 0
      · subst hj0
        have e0 := HJ.out.1 rfl
        obtain rfl := e0.symm
        have k0 := RB.out.cell 0 _ rfl
        have k1 := RB.out.cell 1 _ rfl
        have k2 := RB.out.cell 2 _ rfl
        have k3 := RB.out.cell 3 _ rfl
        have k4 := RB.out.cell 4 _ rfl
        have k5 := RB.out.cell 5 _ rfl
        obtain ⟨Y0, YB⟩ := one_box wr 24 [.int .i64 i.x.kind, .string i.x.text, .int .i64 i.x.n, .int .i64 i.x.m, .int .i64 i.x.pl, .slice a1 i.x.parts.length c1]
        have TB := hid2 Y0
        have HBA := hid2 (below_on HBW.out YB HBW.out.size)
        have GBA := hid2 (GB.out.next YB)
        have RBA := hid2 (RB.out.next YB)
        have TWA := hid2 (TW.out.andBelow YB)
        clear Y0 YB
        go_wp2_with fail
        refine Calls.mono (HZX.out _ HBA.out) ?_
        rintro e w1 ⟨rfl, b1⟩
        have HB1 := hid2 (below_on HBA.out b1 HBA.out.size)
        have GB1 := hid2 (GBA.out.next b1)
        have RB1 := hid2 (RBA.out.next b1)
        have TB1 := hid2 (TB.out.next b1)
        have TW1 := hid2 (TWA.out.andBelow b1)
        clear b1 HBA GBA RBA TB TWA k0 k1 k2 k3 k4 k5
        cases qx
        · have hc0 : cx = mx := by rw [hcx.out]; simp
          have s0 := TB1.out.cell 0 _ rfl
          have s1 := TB1.out.cell 1 _ rfl
          have s2 := TB1.out.cell 2 _ rfl
          have s3 := TB1.out.cell 3 _ rfl
          have s4 := TB1.out.cell 4 _ rfl
          have s5 := TB1.out.cell 5 _ rfl
          have g0 := GB1.out.cell 0 _ rfl
          have lt1 := TB1.out.lt
          have lg1 := GB1.out.lt
          have HC : Hid (∀ wx, Below w1.heap.size w1 wx → Calls Tryd.prog 15 #[tmV i.x (.slice a1 i.x.parts.length c1)] wx fun e w' => e = .returned (.int .i64 ((mx : Nat) : Int)) ∧ Hid (Below w1.heap.size w1 w')) := fun wx hb => (HNX.out wx (below_on HB1.out hb HB1.out.size)).mono fun e w' h => ⟨h.1, below_on hb h.2 hb.size⟩
          have KG := hid2 (fun (wx : World) (hb : Below w1.heap.size w1 wx) => GB1.out.next hb)
          have hsub : left - ((mx : Nat) : Int) = left - ((mx : Nat) : Int) := rfl
          go_wp2_with fail
          go_region_with (go_at_call 15; (with_reducible refine Calls.mono (HC.out _ ?_) ?_); exact (below_drewN (Below.refl _ _) _); rintro e w2 ⟨rfl, B2⟩; have gg0 := (KG.out _ B2.out).cell 0 _ rfl; have gf0 := (KG.out _ B2.out).free 0 (by simp); have gl0 := (KG.out _ B2.out).lt)
          all_goals
            have hne : w.heap.size + 1 ≠ g := by have := lg0; omega
            have GB2 := hid2 ((GB1.out.next B2.out).set 0 (by simp) (.int .i64 (left - ((mx : Nat) : Int))))
            have RB2 := hid2 ((RB1.out.next B2.out).other (q := g) (j := 0) (v := .int .i64 (left - ((mx : Nat) : Int))) hne)
            have TW2 := hid2 ((TW1.out.andBelow B2.out).andSet ⟨g, 0, none⟩ (.int .i64 (left - ((mx : Nat) : Int))) (.inl (by simp)))
            clear s0 s1 s2 s3 s4 s5 g0 HC KG gg0 gf0 gl0
            go_wp2_with fail
            go_roundw
            case rel => exact ⟨1, left - ((mx : Nat) : Int), by go_num, by omega, hid2 ⟨(fun h => by omega), (fun _ => by rw [hc0]), fun h => by omega⟩, GB2, RB2, TW2⟩
            case measure => simp
        · have hc0 : cx = 0 := by rw [hcx.out]; simp
          go_wp2_with fail
          go_roundw
          case rel => exact ⟨1, left, by go_num, by omega, hid2 ⟨(fun h => by omega), (fun _ => by rw [hc0]; simp), fun h => by omega⟩, GB1, RB1, TW1⟩
          case measure => simp
      · have hj1 : j = 1 := by omega
        subst hj1
        have e1 := HJ.out.2.1 rfl
        obtain ⟨l1, hl1⟩ : ∃ l1 : Int, Hid (l1 = left - (cx : Nat)) := ⟨_, hid2 rfl⟩
        have hb1 : -16384 ≤ l1 := by rw [hl1.out]; omega
        have hb2 : l1 ≤ 16384 := by rw [hl1.out]; omega
        rw [← hl1.out] at e1
        obtain rfl := e1.symm
        have k6 := RB.out.cell 6 _ rfl
        have k7 := RB.out.cell 7 _ rfl
        have k8 := RB.out.cell 8 _ rfl
        have k9 := RB.out.cell 9 _ rfl
        have k10 := RB.out.cell 10 _ rfl
        have k11 := RB.out.cell 11 _ rfl
        obtain ⟨Y0, YB⟩ := one_box wr 24 [.int .i64 i.y.kind, .string i.y.text, .int .i64 i.y.n, .int .i64 i.y.m, .int .i64 i.y.pl, .slice a2 i.y.parts.length c2]
        have TB := hid2 Y0
        have HBA := hid2 (below_on HBW.out YB HBW.out.size)
        have GBA := hid2 (GB.out.next YB)
        have RBA := hid2 (RB.out.next YB)
        have TWA := hid2 (TW.out.andBelow YB)
        clear Y0 YB
        go_wp2_with fail
        refine Calls.mono (HZY.out _ HBA.out) ?_
        rintro e w1 ⟨rfl, b1⟩
        have HB1 := hid2 (below_on HBA.out b1 HBA.out.size)
        have GB1 := hid2 (GBA.out.next b1)
        have RB1 := hid2 (RBA.out.next b1)
        have TB1 := hid2 (TB.out.next b1)
        have TW1 := hid2 (TWA.out.andBelow b1)
        clear b1 HBA GBA RBA TB TWA k6 k7 k8 k9 k10 k11
        cases qy
        · have hc0 : cy = my := by rw [hcy.out]; simp
          have s0 := TB1.out.cell 0 _ rfl
          have s1 := TB1.out.cell 1 _ rfl
          have s2 := TB1.out.cell 2 _ rfl
          have s3 := TB1.out.cell 3 _ rfl
          have s4 := TB1.out.cell 4 _ rfl
          have s5 := TB1.out.cell 5 _ rfl
          have g0 := GB1.out.cell 0 _ rfl
          have lt1 := TB1.out.lt
          have lg1 := GB1.out.lt
          have HC : Hid (∀ wx, Below w1.heap.size w1 wx → Calls Tryd.prog 15 #[tmV i.y (.slice a2 i.y.parts.length c2)] wx fun e w' => e = .returned (.int .i64 ((my : Nat) : Int)) ∧ Hid (Below w1.heap.size w1 w')) := fun wx hb => (HNY.out wx (below_on HB1.out hb HB1.out.size)).mono fun e w' h => ⟨h.1, below_on hb h.2 hb.size⟩
          have KG := hid2 (fun (wx : World) (hb : Below w1.heap.size w1 wx) => GB1.out.next hb)
          have hsub : l1 - ((my : Nat) : Int) = l1 - ((my : Nat) : Int) := rfl
          go_wp2_with fail
          go_region_with (go_at_call 15; (with_reducible refine Calls.mono (HC.out _ ?_) ?_); exact (below_drewN (Below.refl _ _) _); rintro e w2 ⟨rfl, B2⟩; have gg0 := (KG.out _ B2.out).cell 0 _ rfl; have gf0 := (KG.out _ B2.out).free 0 (by simp); have gl0 := (KG.out _ B2.out).lt)
          all_goals
            have hne : w.heap.size + 1 ≠ g := by have := lg0; omega
            have GB2 := hid2 ((GB1.out.next B2.out).set 0 (by simp) (.int .i64 (l1 - ((my : Nat) : Int))))
            have RB2 := hid2 ((RB1.out.next B2.out).other (q := g) (j := 0) (v := .int .i64 (l1 - ((my : Nat) : Int))) hne)
            have TW2 := hid2 ((TW1.out.andBelow B2.out).andSet ⟨g, 0, none⟩ (.int .i64 (l1 - ((my : Nat) : Int))) (.inl (by simp)))
            clear s0 s1 s2 s3 s4 s5 g0 HC KG gg0 gf0 gl0
            go_wp2_with fail
            go_roundw
            case rel => exact ⟨2, l1 - ((my : Nat) : Int), by go_num, by omega, hid2 ⟨(fun h => by omega), (fun h => by omega), fun _ => by rw [hl1.out, htot.out, hc0]; omega⟩, GB2, RB2, TW2⟩
            case measure => simp
        · have hc0 : cy = 0 := by rw [hcy.out]; simp
          go_wp2_with fail
          go_roundw
          case rel => exact ⟨2, l1, by go_num, by omega, hid2 ⟨(fun h => by omega), (fun h => by omega), fun _ => by rw [hl1.out, htot.out, hc0]; simp⟩, GB1, RB1, TW1⟩
          case measure => simp
end Go.Proofs.YtdikeicnefgjcaaDoor

/- TreeBuilds, walked. -/
import Derived.Test.YtdikeicnefgjcabDoorTbW
import Derived.Test.YtdikeicnefgjcabDoorTrO
import Derived.Deep.RegionHeld3
namespace Go.Proofs.YtdikeicnefgjcabDoor
open Go.RowKit

theorem keepc {w0 w1 : World} {p : Addr} {v : Value} (hb : Below w0.heap.size w0 w1) (hc : w0.cell? p = some v) : w1.cell? p = some v ∧ p.block < w1.heap.size :=
  have hl := World.block_lt_of_cell? w0 p hc
  ⟨(hb.cell hl).trans hc, Nat.lt_of_lt_of_le hl hb.size⟩
def St (w : World) (a b : Tm) (va vb : Value) (wx : World) : Prop := Below w.heap.size w wx ∧ Box wx w.heap.size (tmL a va) ∧ Box wx (w.heap.size + 1) (tmL b vb)
theorem St.next {w wx w1 : World} {a b : Tm} {va vb : Value} (h : St w a b va vb wx) (k : Below wx.heap.size wx w1) : St w a b va vb w1 := ⟨below_on h.1 k h.1.size, h.2.1.next k, h.2.2.next k⟩
theorem rungA {W8 w9 wN : World} {t : TypeId} (S R : List Value) (hb : Below W8.heap.size W8 w9) (hW : wN = (w9.alloc (.cells S.toArray t)).alloc (.cells R.toArray t)) : Below W8.heap.size W8 wN ∧ Box wN w9.heap.size S ∧ Box wN (w9.heap.size + 1) R := by
  subst hW
  obtain ⟨h0, h1, h2⟩ := two_boxes w9 t t S R
  exact ⟨below_on hb h2 hb.size, h0, h1⟩
theorem box6 {w : World} {g : Nat} {v0 v1 v2 v3 v4 v5 : Value} (c0 : w.cell? ⟨g, 0, none⟩ = some v0) (c1 : w.cell? ⟨g, 1, none⟩ = some v1) (c2 : w.cell? ⟨g, 2, none⟩ = some v2) (c3 : w.cell? ⟨g, 3, none⟩ = some v3) (c4 : w.cell? ⟨g, 4, none⟩ = some v4) (c5 : w.cell? ⟨g, 5, none⟩ = some v5)
    (f0 : w.frozen? ⟨g, 0, none⟩ = false) (f1 : w.frozen? ⟨g, 1, none⟩ = false) (f2 : w.frozen? ⟨g, 2, none⟩ = false) (f3 : w.frozen? ⟨g, 3, none⟩ = false) (f4 : w.frozen? ⟨g, 4, none⟩ = false) (f5 : w.frozen? ⟨g, 5, none⟩ = false) : Box w g [v0, v1, v2, v3, v4, v5] :=
  ⟨fun i v h => by
    match i, h with
    | 0, h => simp at h; subst h; exact c0
    | 1, h => simp at h; subst h; exact c1
    | 2, h => simp at h; subst h; exact c2
    | 3, h => simp at h; subst h; exact c3
    | 4, h => simp at h; subst h; exact c4
    | 5, h => simp at h; subst h; exact c5
    | i + 6, h => simp at h, fun i h => by
    match i, h with
    | 0, _ => exact f0
    | 1, _ => exact f1
    | 2, _ => exact f2
    | 3, _ => exact f3
    | 4, _ => exact f4
    | 5, _ => exact f5
    | i + 6, h => simp at h; omega, World.block_lt_of_cell? w _ c0⟩
theorem rungC {W8 w9 wN : World} {t : TypeId} {u0 u1 u2 u3 u4 u5 : Value} (S : List Value) (v0 v1 v2 v3 v4 v5 : Value) (hb : Below W8.heap.size W8 w9) (hz : Box w9 W8.heap.size [u0, u1, u2, u3, u4, u5])
    (hW : wN = ((((((w9.setCell ⟨W8.heap.size, 0, none⟩ v0).setCell ⟨W8.heap.size, 1, none⟩ v1).setCell ⟨W8.heap.size, 2, none⟩ v2).setCell ⟨W8.heap.size, 3, none⟩ v3).setCell ⟨W8.heap.size, 4, none⟩ v4).setCell ⟨W8.heap.size, 5, none⟩ v5).alloc (.cells S.toArray t)) : Below W8.heap.size W8 wN ∧ Box wN w9.heap.size S ∧ Box wN W8.heap.size [v0, v1, v2, v3, v4, v5] := by
  subst hW
  have h := (((((hz.set 0 (by simp) v0).set 1 (by simp) v1).set 2 (by simp) v2).set 3 (by simp) v3).set 4 (by simp) v4).set 5 (by simp) v5
  have b := (((((hb.setCell (Nat.le_refl _) v0 (p := ⟨W8.heap.size, 0, none⟩)).setCell (Nat.le_refl _) v1 (p := ⟨W8.heap.size, 1, none⟩)).setCell (Nat.le_refl _) v2 (p := ⟨W8.heap.size, 2, none⟩)).setCell (Nat.le_refl _) v3 (p := ⟨W8.heap.size, 3, none⟩)).setCell (Nat.le_refl _) v4 (p := ⟨W8.heap.size, 4, none⟩)).setCell (Nat.le_refl _) v5 (p := ⟨W8.heap.size, 5, none⟩)
  have e := Box.new ((((((w9.setCell ⟨W8.heap.size, 0, none⟩ v0).setCell ⟨W8.heap.size, 1, none⟩ v1).setCell ⟨W8.heap.size, 2, none⟩ v2).setCell ⟨W8.heap.size, 3, none⟩ v3).setCell ⟨W8.heap.size, 4, none⟩ v4).setCell ⟨W8.heap.size, 5, none⟩ v5) S t
  exact ⟨b.alloc (by simpa using hb.size) _, by simpa using e, by simpa using h.next ((Below.refl _ _).alloc (Nat.le_refl _) (.cells S.toArray t))⟩
/-- All that lies there while TreeBuilds asks. -/
structure Lie (w : World) (a b : Tm) (va vb : Value) (K : Int) (g0 g1 g2 g3 g4 g5 g6 g7 gR gS : Nat) (wx : World) : Prop where
  bel : Below w.heap.size w wx
  bxA : Box wx w.heap.size (tmL a va)
  bxB : Box wx (w.heap.size + 1) (tmL b vb)
  bxT : Box wx g1 (tmL (nodeT K [a, b]) (.slice (some ⟨g0, 0, none⟩) 2 2))
  bxL : Box wx g3 (tmL (nodeT K [a]) (.slice (some ⟨g2, 0, none⟩) 1 1))
  bxM : Box wx g5 (tmL (nodeT K [a, b, a]) (.slice (some ⟨g4, 0, none⟩) 3 3))
  bxO : Box wx g7 (tmL (nodeT 34 [a]) (.slice (some ⟨g6, 0, none⟩) 1 1))
  bxR : Box wx gR (tmL (nodeT 36 [nodeT K [a, b], litT 5 ⟨#[]⟩, nodeT 34 [a], nodeT 34 [a]]) (.slice (some ⟨gS, 0, none⟩) 4 4))
  sT : Sits 140737488351232 wx (nodeT K [a, b]) (.slice (some ⟨g0, 0, none⟩) 2 2)
  sL : Sits 140737488351232 wx (nodeT K [a]) (.slice (some ⟨g2, 0, none⟩) 1 1)
  sM : Sits 140737488351232 wx (nodeT K [a, b, a]) (.slice (some ⟨g4, 0, none⟩) 3 3)
  sA : Sits 140737488351232 wx (nodeT 34 [a]) (.slice (some ⟨g6, 0, none⟩) 1 1)
  sR : Sits 140737488351232 wx (nodeT 36 [nodeT K [a, b], litT 5 ⟨#[]⟩, nodeT 34 [a], nodeT 34 [a]]) (.slice (some ⟨gS, 0, none⟩) 4 4)
theorem Lie.next {w : World} {a b : Tm} {va vb : Value} {K : Int} {g0 g1 g2 g3 g4 g5 g6 g7 gR gS : Nat} {wx w1 : World} (h : Lie w a b va vb K g0 g1 g2 g3 g4 g5 g6 g7 gR gS wx) (k : Below wx.heap.size wx w1) : Lie w a b va vb K g0 g1 g2 g3 g4 g5 g6 g7 gR gS w1 :=
  ⟨below_on h.bel k h.bel.size, h.bxA.next k, h.bxB.next k, h.bxT.next k, h.bxL.next k, h.bxM.next k, h.bxO.next k, h.bxR.next k, h.sT.next k, h.sL.next k, h.sM.next k, h.sA.next k, h.sR.next k⟩
theorem boxes8 (w : World) (t : TypeId) (l0 l1 l2 l3 l4 l5 l6 l7 : List Value) (W : World) (hW : W = (((((((w.alloc (.cells l0.toArray t)).alloc (.cells l1.toArray t)).alloc (.cells l2.toArray t)).alloc (.cells l3.toArray t)).alloc (.cells l4.toArray t)).alloc (.cells l5.toArray t)).alloc (.cells l6.toArray t)).alloc (.cells l7.toArray t)) :
    Box W w.heap.size l0 ∧ Box W (w.heap.size + 1) l1 ∧ Box W (w.heap.size + 1 + 1) l2 ∧ Box W (w.heap.size + 1 + 1 + 1) l3 ∧ Box W (w.heap.size + 1 + 1 + 1 + 1) l4 ∧ Box W (w.heap.size + 1 + 1 + 1 + 1 + 1) l5 ∧ Box W (w.heap.size + 1 + 1 + 1 + 1 + 1 + 1) l6 ∧ Box W (w.heap.size + 1 + 1 + 1 + 1 + 1 + 1 + 1) l7 ∧ Below w.heap.size w W ∧ W.heap.size = w.heap.size + 8 := by
  subst hW
  obtain ⟨a0, a1, ab⟩ := two_boxes w t t l0 l1
  obtain ⟨b0, b1, bb⟩ := two_boxes ((w.alloc (.cells l0.toArray t)).alloc (.cells l1.toArray t)) t t l2 l3
  obtain ⟨c0, c1, cb⟩ := two_boxes ((((w.alloc (.cells l0.toArray t)).alloc (.cells l1.toArray t)).alloc (.cells l2.toArray t)).alloc (.cells l3.toArray t)) t t l4 l5
  obtain ⟨d0, d1, db⟩ := two_boxes ((((((w.alloc (.cells l0.toArray t)).alloc (.cells l1.toArray t)).alloc (.cells l2.toArray t)).alloc (.cells l3.toArray t)).alloc (.cells l4.toArray t)).alloc (.cells l5.toArray t)) t t l6 l7
  have e1 := (b0.next cb).next db
  have e2 := (b1.next cb).next db
  have e3 := c0.next db
  have e4 := c1.next db
  simp only [World.size_alloc] at e1 e2 e3 e4 d0 d1
  exact ⟨((a0.next bb).next cb).next db, ((a1.next bb).next cb).next db, e1, e2, e3, e4, d0, d1, below_on (below_on (below_on ab bb ab.size) cb (by simp; omega)) db (by simp; omega), by simp⟩
set_option maxRecDepth 20000 in
set_option maxHeartbeats 8000000 in
theorem treeBuilds_walk (a : Tm) (va : Value) (b : Tm) (vb : Value) (kind : Int) (w : World) (ha : Sits 140737488351232 w a va) (hb : Sits 140737488351232 w b vb) (wk : (Lit.int .i64 kind).wf = true) (hT : TabsAt w) : Calls Tryd.prog 3 #[tmV a va, tmV b vb, .int .i64 kind] w fun e w' => e = .returned (.bool true) ∧ Below w.heap.size w w' := by
  obtain ⟨kb1, kb2⟩ := in64 wk
  obtain ⟨ada, ca, rfl, -, -⟩ := ha.parts.shape
  obtain ⟨adb, cb, rfl, -, -⟩ := hb.parts.shape
  have HA : Hid (∀ wx, St w a b (.slice ada a.parts.length ca) (.slice adb b.parts.length cb) wx → Calls Tryd.prog 4 #[] wx fun e w' => e = .returned (.bool true) ∧ Hid (St w a b (.slice ada a.parts.length ca) (.slice adb b.parts.length cb) w')) := fun wx h => (awake_c wx (hT.next h.1)).mono fun e w' k => ⟨k.1, h.next k.2⟩
  have HS1 : Hid (∀ wx, St w a b (.slice ada a.parts.length ca) (.slice adb b.parts.length cb) wx → Calls Tryd.prog 5 #[tmV a (.slice ada a.parts.length ca)] wx fun e w' => e = .returned (.bool (decide (nodes a ≤ 16384))) ∧ Hid (St w a b (.slice ada a.parts.length ca) (.slice adb b.parts.length cb) w')) := fun wx h => (small_c a _ wx (ha.next h.1)).mono fun e w' k => ⟨k.1, h.next k.2⟩
  have HS2 : Hid (∀ wx, St w a b (.slice ada a.parts.length ca) (.slice adb b.parts.length cb) wx → Calls Tryd.prog 5 #[tmV b (.slice adb b.parts.length cb)] wx fun e w' => e = .returned (.bool (decide (nodes b ≤ 16384))) ∧ Hid (St w a b (.slice ada a.parts.length ca) (.slice adb b.parts.length cb) w')) := fun wx h => (small_c b _ wx (hb.next h.1)).mono fun e w' k => ⟨k.1, h.next k.2⟩
  have HF1 : Hid (∀ wx, St w a b (.slice ada a.parts.length ca) (.slice adb b.parts.length cb) wx → Calls Tryd.prog 6 #[tmV a (.slice ada a.parts.length ca)] wx fun e w' => e = .returned (.bool (formedB a)) ∧ Hid (St w a b (.slice ada a.parts.length ca) (.slice adb b.parts.length cb) w')) := fun wx h => (formed_all (by decide) a _ wx (ha.next h.1) (hT.next h.1)).mono fun e w' k => ⟨k.1, h.next k.2⟩
  have HF2 : Hid (∀ wx, St w a b (.slice ada a.parts.length ca) (.slice adb b.parts.length cb) wx → Calls Tryd.prog 6 #[tmV b (.slice adb b.parts.length cb)] wx fun e w' => e = .returned (.bool (formedB b)) ∧ Hid (St w a b (.slice ada a.parts.length ca) (.slice adb b.parts.length cb) w')) := fun wx h => (formed_all (by decide) b _ wx (hb.next h.1) (hT.next h.1)).mono fun e w' k => ⟨k.1, h.next k.2⟩
  have I0 : Hid (St w a b (.slice ada a.parts.length ca) (.slice adb b.parts.length cb) ((w.alloc (.cells (tmL a (.slice ada a.parts.length ca)).toArray 24)).alloc (.cells (tmL b (.slice adb b.parts.length cb)).toArray 24))) := by
    obtain ⟨X0, X1, XB⟩ := two_boxes w 24 24 (tmL a (.slice ada a.parts.length ca)) (tmL b (.slice adb b.parts.length cb))
    exact ⟨XB, X0, X1⟩
  have Ha := hid2 ha
  have Hb := hid2 hb
  have HT := hid2 hT
  clear ha hb hT wk
  generalize decide (nodes a ≤ 16384) = sa at *
  generalize decide (nodes b ≤ 16384) = sb at *
  obtain ⟨fa, hfa⟩ : ∃ q : Bool, Hid (q = formedB a) := ⟨_, rfl⟩
  obtain ⟨fb, hfb⟩ : ∃ q : Bool, Hid (q = formedB b) := ⟨_, rfl⟩
  rw [← hfa.out] at HF1
  rw [← hfb.out] at HF2
  go_enter Tryd.func3, Tryd.ntmps3
  go_wp2_with fail
  refine Calls.mono (HA.out _ I0.out) ?_
  rintro e w1 ⟨rfl, I1⟩
  have x0 := I1.out.2.1.cell 0 _ rfl
  have x1 := I1.out.2.1.cell 1 _ rfl
  have x2 := I1.out.2.1.cell 2 _ rfl
  have x3 := I1.out.2.1.cell 3 _ rfl
  have x4 := I1.out.2.1.cell 4 _ rfl
  have x5 := I1.out.2.1.cell 5 _ rfl
  go_wp2_with fail
  clear x0 x1 x2 x3 x4 x5
  refine Calls.mono (HS1.out _ I1.out) ?_
  rintro e w2 ⟨rfl, I2⟩
  cases sa
  · go_wp2_with fail
    refine Calls.mono (HA.out _ I2.out) ?_
    rintro e wz ⟨rfl, Iz⟩
    go_wp2_with fail
    go_ret
    exact ⟨rfl, Iz.out.1⟩
  have y0 := I2.out.2.2.cell 0 _ rfl
  have y1 := I2.out.2.2.cell 1 _ rfl
  have y2 := I2.out.2.2.cell 2 _ rfl
  have y3 := I2.out.2.2.cell 3 _ rfl
  have y4 := I2.out.2.2.cell 4 _ rfl
  have y5 := I2.out.2.2.cell 5 _ rfl
  go_wp2_with fail
  clear y0 y1 y2 y3 y4 y5
  refine Calls.mono (HS2.out _ I2.out) ?_
  rintro e w3 ⟨rfl, I3⟩
  cases sb
  · go_wp2_with fail
    refine Calls.mono (HA.out _ I3.out) ?_
    rintro e wz ⟨rfl, Iz⟩
    go_wp2_with fail
    go_ret
    exact ⟨rfl, Iz.out.1⟩
  have x0 := I3.out.2.1.cell 0 _ rfl
  have x1 := I3.out.2.1.cell 1 _ rfl
  have x2 := I3.out.2.1.cell 2 _ rfl
  have x3 := I3.out.2.1.cell 3 _ rfl
  have x4 := I3.out.2.1.cell 4 _ rfl
  have x5 := I3.out.2.1.cell 5 _ rfl
  go_wp2_with fail
  clear x0 x1 x2 x3 x4 x5
  refine Calls.mono (HF1.out _ I3.out) ?_
  rintro e w4 ⟨rfl, I4⟩
  cases fa
  · go_wp2_with fail
    refine Calls.mono (HA.out _ I4.out) ?_
    rintro e wz ⟨rfl, Iz⟩
    go_wp2_with fail
    go_ret
    exact ⟨rfl, Iz.out.1⟩
  have y0 := I4.out.2.2.cell 0 _ rfl
  have y1 := I4.out.2.2.cell 1 _ rfl
  have y2 := I4.out.2.2.cell 2 _ rfl
  have y3 := I4.out.2.2.cell 3 _ rfl
  have y4 := I4.out.2.2.cell 4 _ rfl
  have y5 := I4.out.2.2.cell 5 _ rfl
  go_wp2_with fail
  clear y0 y1 y2 y3 y4 y5
  refine Calls.mono (HF2.out _ I4.out) ?_
  rintro e w5 ⟨rfl, I5⟩
  cases fb
  · go_wp2_with fail
    refine Calls.mono (HA.out _ I5.out) ?_
    rintro e wz ⟨rfl, Iz⟩
    go_wp2_with fail
    go_ret
    exact ⟨rfl, Iz.out.1⟩
  have x0 := I5.out.2.1.cell 0 _ rfl
  have x1 := I5.out.2.1.cell 1 _ rfl
  have x2 := I5.out.2.1.cell 2 _ rfl
  have x3 := I5.out.2.1.cell 3 _ rfl
  have x4 := I5.out.2.1.cell 4 _ rfl
  have x5 := I5.out.2.1.cell 5 _ rfl
  have y0 := I5.out.2.2.cell 0 _ rfl
  have y1 := I5.out.2.2.cell 1 _ rfl
  have y2 := I5.out.2.2.cell 2 _ rfl
  have y3 := I5.out.2.2.cell 3 _ rfl
  have y4 := I5.out.2.2.cell 4 _ rfl
  have y5 := I5.out.2.2.cell 5 _ rfl
  have lt0 := I5.out.2.1.lt
  have lt1 := I5.out.2.2.lt
  clear HA HS1 HS2 HF1 HF2 I0 I1 I2 I3 I4
  obtain ⟨K, hK⟩ : ∃ K, wrap64 (18 + (max kind (wrap64 (-wrap64 (kind + 1)))).tmod 14) = K := ⟨_, rfl⟩
  have hKb : Hid (18 ≤ K ∧ K ≤ 31) := by
    have m0 : 0 ≤ max kind (wrap64 (-wrap64 (kind + 1))) := by unfold wrap64; omega
    generalize max kind (wrap64 (-wrap64 (kind + 1))) = mx at *
    rw [Int.tmod_eq_emod_of_nonneg m0] at hK
    unfold wrap64 at hK
    show _ ∧ _
    omega
  have p1 : w.heap.size < w5.heap.size + 1 := by omega
  have r1 : w.heap.size + 1 < w5.heap.size + 1 := by omega
  have p2 : w.heap.size < w5.heap.size + 1 + 1 := by omega
  have r2 : w.heap.size + 1 < w5.heap.size + 1 + 1 := by omega
  have p3 : w.heap.size < w5.heap.size + 1 + 1 + 1 := by omega
  have r3 : w.heap.size + 1 < w5.heap.size + 1 + 1 + 1 := by omega
  have p4 : w.heap.size < w5.heap.size + 1 + 1 + 1 + 1 := by omega
  have r4 : w.heap.size + 1 < w5.heap.size + 1 + 1 + 1 + 1 := by omega
  have p5 : w.heap.size < w5.heap.size + 1 + 1 + 1 + 1 + 1 := by omega
  have r5 : w.heap.size + 1 < w5.heap.size + 1 + 1 + 1 + 1 + 1 := by omega
  have p6 : w.heap.size < w5.heap.size + 1 + 1 + 1 + 1 + 1 + 1 := by omega
  have r6 : w.heap.size + 1 < w5.heap.size + 1 + 1 + 1 + 1 + 1 + 1 := by omega
  have p7 : w.heap.size < w5.heap.size + 1 + 1 + 1 + 1 + 1 + 1 + 1 := by omega
  have r7 : w.heap.size + 1 < w5.heap.size + 1 + 1 + 1 + 1 + 1 + 1 + 1 := by omega
  have p8 : w.heap.size < w5.heap.size + 1 + 1 + 1 + 1 + 1 + 1 + 1 + 1 := by omega
  have r8 : w.heap.size + 1 < w5.heap.size + 1 + 1 + 1 + 1 + 1 + 1 + 1 + 1 := by omega
  go_wp2_with fail
  have HNum := hid2 (fun wx => num_c 5 ⟨#[]⟩ wx)
  generalize hW8 : World.alloc _ _ = W8
  obtain ⟨z0, z1, z2, z3, z4, z5, z6, z7, zb, zs⟩ := boxes8 _ _ _ _ _ _ _ _ _ _ W8 hW8.symm
  clear hW8
  have B8 := hid2 (below_on I5.out.1 zb I5.out.1.size)
  have S8 := hid2 (I5.out.next zb)
  have Sa := hid2 (Ha.out.next B8.out)
  have Sb := hid2 (Hb.out.next B8.out)
  clear zb zs p1 r1 p2 r2 p3 r3 p4 r4 p5 r5 p6 r6 p7 r7 p8 r8 lt0 lt1 I5 x0 x1 x2 x3 x4 x5 y0 y1 y2 y3 y4 y5
  generalize w5.heap.size + 1 + 1 + 1 + 1 + 1 + 1 + 1 = g7 at *
  generalize w5.heap.size + 1 + 1 + 1 + 1 + 1 + 1 = g6 at *
  generalize w5.heap.size + 1 + 1 + 1 + 1 + 1 = g5 at *
  generalize w5.heap.size + 1 + 1 + 1 + 1 = g4 at *
  generalize w5.heap.size + 1 + 1 + 1 = g3 at *
  generalize w5.heap.size + 1 + 1 = g2 at *
  generalize w5.heap.size + 1 = g1 at *
  generalize w5.heap.size = g0 at *
  have hKi : In64 K := ⟨by have := hKb.out; omega, by have := hKb.out; omega⟩
  have sT := hid2 (sits_node hKi (pat_list [(a, (.slice ada a.parts.length ca)), (b, (.slice adb b.parts.length cb))] z0 (by simpa using ⟨Sa.out, Sb.out⟩) 2 (by simp) (by decide)))
  have sL := hid2 (sits_node hKi (pat_list [(a, (.slice ada a.parts.length ca))] z2 (by simpa using Sa.out) 1 (by simp) (by decide)))
  have sM := hid2 (sits_node hKi (pat_list [(a, (.slice ada a.parts.length ca)), (b, (.slice adb b.parts.length cb)), (a, (.slice ada a.parts.length ca))] z4 (by simpa using ⟨Sa.out, Sb.out, Sa.out⟩) 3 (by simp) (by decide)))
  have sA := hid2 (sits_node (k := 34) ⟨by decide, by decide⟩ (pat_list [(a, (.slice ada a.parts.length ca))] z6 (by simpa using Sa.out) 1 (by simp) (by decide)))
  have Z1 := hid2 z1
  have Z3 := hid2 z3
  have Z5 := hid2 z5
  have Z7 := hid2 z7
  have t0 := z1.cell 0 _ rfl
  have a0 := z7.cell 0 _ rfl
  have t1 := z1.cell 1 _ rfl
  have a1 := z7.cell 1 _ rfl
  have t2 := z1.cell 2 _ rfl
  have a2 := z7.cell 2 _ rfl
  have t3 := z1.cell 3 _ rfl
  have a3 := z7.cell 3 _ rfl
  have t4 := z1.cell 4 _ rfl
  have a4 := z7.cell 4 _ rfl
  have t5 := z1.cell 5 _ rfl
  have a5 := z7.cell 5 _ rfl
  have lt1 := z1.lt
  have lt7 := z7.lt
  have HC1 : Hid (∀ gR gS wx, Lie w a b (.slice ada a.parts.length ca) (.slice adb b.parts.length cb) K g0 g1 g2 g3 g4 g5 g6 g7 gR gS wx → Calls Tryd.prog 6 #[tmV (nodeT K [a, b]) (.slice (some ⟨g0, 0, none⟩) 2 2)] wx fun e w' => e = .returned (.bool true) ∧ Hid (Lie w a b (.slice ada a.parts.length ca) (.slice adb b.parts.length cb) K g0 g1 g2 g3 g4 g5 g6 g7 gR gS w')) := fun gR gS wx h => (formed_all (by decide) (nodeT K [a, b]) _ wx h.sT (HT.out.next h.bel)).mono fun e w' k => ⟨by rw [k.1, formed_two hKb.out.1 hKb.out.2 hfa.out.symm hfb.out.symm], h.next k.2⟩
  have HC2 : Hid (∀ gR gS wx, Lie w a b (.slice ada a.parts.length ca) (.slice adb b.parts.length cb) K g0 g1 g2 g3 g4 g5 g6 g7 gR gS wx → Calls Tryd.prog 6 #[tmV (nodeT K [a]) (.slice (some ⟨g2, 0, none⟩) 1 1)] wx fun e w' => e = .returned (.bool false) ∧ Hid (Lie w a b (.slice ada a.parts.length ca) (.slice adb b.parts.length cb) K g0 g1 g2 g3 g4 g5 g6 g7 gR gS w')) := fun gR gS wx h => (formed_all (by decide) (nodeT K [a]) _ wx h.sL (HT.out.next h.bel)).mono fun e w' k => ⟨by rw [k.1, formed_less hKb.out.1], h.next k.2⟩
  have HC3 : Hid (∀ gR gS wx, Lie w a b (.slice ada a.parts.length ca) (.slice adb b.parts.length cb) K g0 g1 g2 g3 g4 g5 g6 g7 gR gS wx → Calls Tryd.prog 6 #[tmV (nodeT K [a, b, a]) (.slice (some ⟨g4, 0, none⟩) 3 3)] wx fun e w' => e = .returned (.bool false) ∧ Hid (Lie w a b (.slice ada a.parts.length ca) (.slice adb b.parts.length cb) K g0 g1 g2 g3 g4 g5 g6 g7 gR gS w')) := fun gR gS wx h => (formed_all (by decide) (nodeT K [a, b, a]) _ wx h.sM (HT.out.next h.bel)).mono fun e w' k => ⟨by rw [k.1, formed_more hKb.out.2], h.next k.2⟩
  have HC4 : Hid (∀ gR gS wx, Lie w a b (.slice ada a.parts.length ca) (.slice adb b.parts.length cb) K g0 g1 g2 g3 g4 g5 g6 g7 gR gS wx → Calls Tryd.prog 8 #[tmV (nodeT K [a, b]) (.slice (some ⟨g0, 0, none⟩) 2 2)] wx fun e w' => e = .returned (.bool false) ∧ Hid (Lie w a b (.slice ada a.parts.length ca) (.slice adb b.parts.length cb) K g0 g1 g2 g3 g4 g5 g6 g7 gR gS w')) := fun gR gS wx h => (action_all (by decide) (nodeT K [a, b]) _ wx h.sT (HT.out.next h.bel)).mono fun e w' k => ⟨by rw [k.1, action_two hKb.out.2], h.next k.2⟩
  have HC5 : Hid (∀ gR gS wx, Lie w a b (.slice ada a.parts.length ca) (.slice adb b.parts.length cb) K g0 g1 g2 g3 g4 g5 g6 g7 gR gS wx → Calls Tryd.prog 8 #[tmV (nodeT 34 [a]) (.slice (some ⟨g6, 0, none⟩) 1 1)] wx fun e w' => e = .returned (.bool true) ∧ Hid (Lie w a b (.slice ada a.parts.length ca) (.slice adb b.parts.length cb) K g0 g1 g2 g3 g4 g5 g6 g7 gR gS w')) := fun gR gS wx h => (action_all (by decide) (nodeT 34 [a]) _ wx h.sA (HT.out.next h.bel)).mono fun e w' k => ⟨by rw [k.1, action_to hfa.out.symm], h.next k.2⟩
  have HC6 : Hid (∀ gR gS wx, Lie w a b (.slice ada a.parts.length ca) (.slice adb b.parts.length cb) K g0 g1 g2 g3 g4 g5 g6 g7 gR gS wx → Calls Tryd.prog 6 #[tmV (nodeT 34 [a]) (.slice (some ⟨g6, 0, none⟩) 1 1)] wx fun e w' => e = .returned (.bool false) ∧ Hid (Lie w a b (.slice ada a.parts.length ca) (.slice adb b.parts.length cb) K g0 g1 g2 g3 g4 g5 g6 g7 gR gS w')) := fun gR gS wx h => (formed_all (by decide) (nodeT 34 [a]) _ wx h.sA (HT.out.next h.bel)).mono fun e w' k => ⟨by rw [k.1, formed_to], h.next k.2⟩
  have HC7 : Hid (∀ gR gS wx, Lie w a b (.slice ada a.parts.length ca) (.slice adb b.parts.length cb) K g0 g1 g2 g3 g4 g5 g6 g7 gR gS wx → Calls Tryd.prog 8 #[tmV (nodeT 36 [nodeT K [a, b], litT 5 ⟨#[]⟩, nodeT 34 [a], nodeT 34 [a]]) (.slice (some ⟨gS, 0, none⟩) 4 4)] wx fun e w' => e = .returned (.bool true) ∧ Hid (Lie w a b (.slice ada a.parts.length ca) (.slice adb b.parts.length cb) K g0 g1 g2 g3 g4 g5 g6 g7 gR gS w')) := fun gR gS wx h => (action_all (by decide) (nodeT 36 [nodeT K [a, b], litT 5 ⟨#[]⟩, nodeT 34 [a], nodeT 34 [a]]) _ wx h.sR (HT.out.next h.bel)).mono fun e w' k => ⟨by rw [k.1, action_rung (formed_two hKb.out.1 hKb.out.2 hfa.out.symm hfb.out.symm) (action_to hfa.out.symm)], h.next k.2⟩
  have HC8 : Hid (∀ gR gS wx, Lie w a b (.slice ada a.parts.length ca) (.slice adb b.parts.length cb) K g0 g1 g2 g3 g4 g5 g6 g7 gR gS wx → Calls Tryd.prog 6 #[tmV (nodeT 32 [a, nodeT K [a, b], b]) (.slice (some ⟨wx.heap.size, 0, none⟩) 3 3)] (wx.alloc (.cells ([(a, (.slice ada a.parts.length ca)), (nodeT K [a, b], (.slice (some ⟨g0, 0, none⟩) 2 2)), (b, (.slice adb b.parts.length cb))].flatMap fun q => tmL q.1 q.2).toArray 24)) fun e w' => e = .returned (.bool true) ∧ Hid (Lie w a b (.slice ada a.parts.length ca) (.slice adb b.parts.length cb) K g0 g1 g2 g3 g4 g5 g6 g7 gR gS w')) := fun gR gS wx h => by
    have A : Below wx.heap.size wx (wx.alloc (.cells ([(a, (.slice ada a.parts.length ca)), (nodeT K [a, b], (.slice (some ⟨g0, 0, none⟩) 2 2)), (b, (.slice adb b.parts.length cb))].flatMap fun q => tmL q.1 q.2).toArray 24)) := (Below.refl _ _).alloc (Nat.le_refl _) _
    have hx : Sits 140737488351232 _ (nodeT 32 [a, nodeT K [a, b], b]) (.slice (some ⟨wx.heap.size, 0, none⟩) 3 3) := sits_node (k := 32) ⟨by decide, by decide⟩ (pat_list [(a, (.slice ada a.parts.length ca)), (nodeT K [a, b], (.slice (some ⟨g0, 0, none⟩) 2 2)), (b, (.slice adb b.parts.length cb))] (Box.new wx _ 24) (by simpa using ⟨(Ha.out.next h.bel).next A, h.sT.next A, (Hb.out.next h.bel).next A⟩) 3 (by simp) (by decide))
    exact (formed_all (by decide) (nodeT 32 [a, nodeT K [a, b], b]) _ _ hx (HT.out.next (below_on h.bel A h.bel.size))).mono fun e w' k => ⟨by rw [k.1, formed_if hfa.out.symm (formed_two hKb.out.1 hKb.out.2 hfa.out.symm hfb.out.symm) hfb.out.symm], (h.next A).next k.2⟩
  have HC9 : Hid (∀ gR gS wx, Lie w a b (.slice ada a.parts.length ca) (.slice adb b.parts.length cb) K g0 g1 g2 g3 g4 g5 g6 g7 gR gS wx → Calls Tryd.prog 6 #[tmV (nodeT 13 [nodeT K [a, b]]) (.slice (some ⟨wx.heap.size, 0, none⟩) 1 1)] (wx.alloc (.cells ([(nodeT K [a, b], (.slice (some ⟨g0, 0, none⟩) 2 2))].flatMap fun q => tmL q.1 q.2).toArray 24)) fun e w' => e = .returned (.bool true) ∧ Hid (Lie w a b (.slice ada a.parts.length ca) (.slice adb b.parts.length cb) K g0 g1 g2 g3 g4 g5 g6 g7 gR gS w')) := fun gR gS wx h => by
    have A : Below wx.heap.size wx (wx.alloc (.cells ([(nodeT K [a, b], (.slice (some ⟨g0, 0, none⟩) 2 2))].flatMap fun q => tmL q.1 q.2).toArray 24)) := (Below.refl _ _).alloc (Nat.le_refl _) _
    have hx : Sits 140737488351232 _ (nodeT 13 [nodeT K [a, b]]) (.slice (some ⟨wx.heap.size, 0, none⟩) 1 1) := sits_node (k := 13) ⟨by decide, by decide⟩ (pat_list [(nodeT K [a, b], (.slice (some ⟨g0, 0, none⟩) 2 2))] (Box.new wx _ 24) (by simpa using h.sT.next A) 1 (by simp) (by decide))
    exact (formed_all (by decide) (nodeT 13 [nodeT K [a, b]]) _ _ hx (HT.out.next (below_on h.bel A h.bel.size))).mono fun e w' k => ⟨by rw [k.1, formed_minus (formed_two hKb.out.1 hKb.out.2 hfa.out.symm hfb.out.symm)], (h.next A).next k.2⟩
  clear z0 z1 z2 z3 z4 z5 z6 z7 hKi
  go_region_held3 (fun w' => w'.cell? ⟨g1, 0, none⟩ = some (.int .i64 K) ∧ w'.cell? ⟨g1, 1, none⟩ = some (.string ⟨#[]⟩) ∧ w'.cell? ⟨g1, 2, none⟩ = some (.int .i64 0) ∧ w'.cell? ⟨g1, 3, none⟩ = some (.int .i64 0) ∧ w'.cell? ⟨g1, 4, none⟩ = some (.int .i64 0) ∧ w'.cell? ⟨g1, 5, none⟩ = some (.slice (some ⟨g0, 0, none⟩) 2 2) ∧ w'.cell? ⟨g7, 0, none⟩ = some (.int .i64 34) ∧ w'.cell? ⟨g7, 1, none⟩ = some (.string ⟨#[]⟩) ∧ w'.cell? ⟨g7, 2, none⟩ = some (.int .i64 0) ∧ w'.cell? ⟨g7, 3, none⟩ = some (.int .i64 0) ∧ w'.cell? ⟨g7, 4, none⟩ = some (.int .i64 0) ∧ w'.cell? ⟨g7, 5, none⟩ = some (.slice (some ⟨g6, 0, none⟩) 1 1)) (simp [go_sem, *]) (first | (go_at_call 7; refine Calls.mono (HNum.out _) ?_; rintro e w9 ⟨rfl, b9⟩; obtain ⟨t0', l1⟩ := keepc b9 (p := ⟨g1, 0, none⟩) (v := .int .i64 K) (by simp [go_sem, *]); obtain ⟨a0', l7⟩ := keepc b9 (p := ⟨g7, 0, none⟩) (v := .int .i64 34) (by simp [go_sem, *]); obtain ⟨t1', l1⟩ := keepc b9 (p := ⟨g1, 1, none⟩) (v := .string ⟨#[]⟩) (by simp [go_sem, *]); obtain ⟨a1', l7⟩ := keepc b9 (p := ⟨g7, 1, none⟩) (v := .string ⟨#[]⟩) (by simp [go_sem, *]); obtain ⟨t2', l1⟩ := keepc b9 (p := ⟨g1, 2, none⟩) (v := .int .i64 0) (by simp [go_sem, *]); obtain ⟨a2', l7⟩ := keepc b9 (p := ⟨g7, 2, none⟩) (v := .int .i64 0) (by simp [go_sem, *]); obtain ⟨t3', l1⟩ := keepc b9 (p := ⟨g1, 3, none⟩) (v := .int .i64 0) (by simp [go_sem, *]); obtain ⟨a3', l7⟩ := keepc b9 (p := ⟨g7, 3, none⟩) (v := .int .i64 0) (by simp [go_sem, *]); obtain ⟨t4', l1⟩ := keepc b9 (p := ⟨g1, 4, none⟩) (v := .int .i64 0) (by simp [go_sem, *]); obtain ⟨a4', l7⟩ := keepc b9 (p := ⟨g7, 4, none⟩) (v := .int .i64 0) (by simp [go_sem, *]); obtain ⟨t5', l1⟩ := keepc b9 (p := ⟨g1, 5, none⟩) (v := .slice (some ⟨g0, 0, none⟩) 2 2) (by simp [go_sem, *]); obtain ⟨a5', l7⟩ := keepc b9 (p := ⟨g7, 5, none⟩) (v := .slice (some ⟨g6, 0, none⟩) 1 1) (by simp [go_sem, *]); have n0 := b9.cell (p := ⟨W8.heap.size, 0, none⟩); simp [go_sem] at n0; have nf0 := b9.frozen (p := ⟨W8.heap.size, 0, none⟩); simp [go_sem] at nf0; have n1 := b9.cell (p := ⟨W8.heap.size, 1, none⟩); simp [go_sem] at n1; have nf1 := b9.frozen (p := ⟨W8.heap.size, 1, none⟩); simp [go_sem] at nf1; have n2 := b9.cell (p := ⟨W8.heap.size, 2, none⟩); simp [go_sem] at n2; have nf2 := b9.frozen (p := ⟨W8.heap.size, 2, none⟩); simp [go_sem] at nf2; have n3 := b9.cell (p := ⟨W8.heap.size, 3, none⟩); simp [go_sem] at n3; have nf3 := b9.frozen (p := ⟨W8.heap.size, 3, none⟩); simp [go_sem] at nf3; have n4 := b9.cell (p := ⟨W8.heap.size, 4, none⟩); simp [go_sem] at n4; have nf4 := b9.frozen (p := ⟨W8.heap.size, 4, none⟩); simp [go_sem] at nf4; have n5 := b9.cell (p := ⟨W8.heap.size, 5, none⟩); simp [go_sem] at n5; have nf5 := b9.frozen (p := ⟨W8.heap.size, 5, none⟩); simp [go_sem] at nf5; have sz9 := b9.size; simp at sz9; (try (have lt9 : W8.heap.size < w9.heap.size := (by omega); have ne9 : W8.heap.size ≠ w9.heap.size := (by omega))); have BB9 := hid2 b9; clear b9))
  · generalize hWN : World.alloc _ _ = wN
    obtain ⟨hN, hS, hR⟩ := rungA (W8 := W8) _ _ ((Below.refl W8.heap.size W8).drew.trans BB9.out) hWN.symm
    clear hWN
    generalize w9.heap.size + 1 = gR at hR ⊢
    generalize w9.heap.size = gS at hS hR ⊢
    have IN : Hid (Lie w a b (.slice ada a.parts.length ca) (.slice adb b.parts.length cb) K g0 g1 g2 g3 g4 g5 g6 g7 gR gS wN) := ⟨below_on B8.out hN B8.out.size, S8.out.2.1.next hN, S8.out.2.2.next hN, Z1.out.next hN, Z3.out.next hN, Z5.out.next hN, Z7.out.next hN, hR, sT.out.next hN, sL.out.next hN, sM.out.next hN, sA.out.next hN, sits_node (k := 36) ⟨by decide, by decide⟩ (pat_list [(nodeT K [a, b], (.slice (some ⟨g0, 0, none⟩) 2 2)), (litT 5 ⟨#[]⟩, .slice none 0 0), (nodeT 34 [a], (.slice (some ⟨g6, 0, none⟩) 1 1)), (nodeT 34 [a], (.slice (some ⟨g6, 0, none⟩) 1 1))] hS (by simpa using ⟨sT.out.next hN, sits_num 5 ⟨#[]⟩ wN ⟨by decide, by decide⟩ (Nat.zero_le _), sA.out.next hN⟩) 4 (by simp) (by decide))⟩
    clear hN hR hS Z1 Z3 Z5 Z7 sT sL sM sA S8 B8 HNum sz9 BB9
    have c0 := IN.out.bxT.cell 0 _ rfl
    have c1 := IN.out.bxT.cell 1 _ rfl
    have c2 := IN.out.bxT.cell 2 _ rfl
    have c3 := IN.out.bxT.cell 3 _ rfl
    have c4 := IN.out.bxT.cell 4 _ rfl
    have c5 := IN.out.bxT.cell 5 _ rfl
    go_wp2_with fail
    clear c0 c1 c2 c3 c4 c5
    refine Calls.mono (HC1.out gR gS _ IN.out) ?_
    rintro e w10 ⟨rfl, I10⟩
    have c0 := I10.out.bxL.cell 0 _ rfl
    have c1 := I10.out.bxL.cell 1 _ rfl
    have c2 := I10.out.bxL.cell 2 _ rfl
    have c3 := I10.out.bxL.cell 3 _ rfl
    have c4 := I10.out.bxL.cell 4 _ rfl
    have c5 := I10.out.bxL.cell 5 _ rfl
    go_wp2_with fail
    clear c0 c1 c2 c3 c4 c5
    refine Calls.mono (HC2.out gR gS _ I10.out) ?_
    rintro e w11 ⟨rfl, I11⟩
    have c0 := I11.out.bxM.cell 0 _ rfl
    have c1 := I11.out.bxM.cell 1 _ rfl
    have c2 := I11.out.bxM.cell 2 _ rfl
    have c3 := I11.out.bxM.cell 3 _ rfl
    have c4 := I11.out.bxM.cell 4 _ rfl
    have c5 := I11.out.bxM.cell 5 _ rfl
    go_wp2_with fail
    clear c0 c1 c2 c3 c4 c5
    refine Calls.mono (HC3.out gR gS _ I11.out) ?_
    rintro e w12 ⟨rfl, I12⟩
    have c0 := I12.out.bxT.cell 0 _ rfl
    have c1 := I12.out.bxT.cell 1 _ rfl
    have c2 := I12.out.bxT.cell 2 _ rfl
    have c3 := I12.out.bxT.cell 3 _ rfl
    have c4 := I12.out.bxT.cell 4 _ rfl
    have c5 := I12.out.bxT.cell 5 _ rfl
    go_wp2_with fail
    clear c0 c1 c2 c3 c4 c5
    refine Calls.mono (HC4.out gR gS _ I12.out) ?_
    rintro e w13 ⟨rfl, I13⟩
    have c0 := I13.out.bxO.cell 0 _ rfl
    have c1 := I13.out.bxO.cell 1 _ rfl
    have c2 := I13.out.bxO.cell 2 _ rfl
    have c3 := I13.out.bxO.cell 3 _ rfl
    have c4 := I13.out.bxO.cell 4 _ rfl
    have c5 := I13.out.bxO.cell 5 _ rfl
    go_wp2_with fail
    clear c0 c1 c2 c3 c4 c5
    refine Calls.mono (HC5.out gR gS _ I13.out) ?_
    rintro e w14 ⟨rfl, I14⟩
    have c0 := I14.out.bxO.cell 0 _ rfl
    have c1 := I14.out.bxO.cell 1 _ rfl
    have c2 := I14.out.bxO.cell 2 _ rfl
    have c3 := I14.out.bxO.cell 3 _ rfl
    have c4 := I14.out.bxO.cell 4 _ rfl
    have c5 := I14.out.bxO.cell 5 _ rfl
    go_wp2_with fail
    clear c0 c1 c2 c3 c4 c5
    refine Calls.mono (HC6.out gR gS _ I14.out) ?_
    rintro e w15 ⟨rfl, I15⟩
    have c0 := I15.out.bxR.cell 0 _ rfl
    have c1 := I15.out.bxR.cell 1 _ rfl
    have c2 := I15.out.bxR.cell 2 _ rfl
    have c3 := I15.out.bxR.cell 3 _ rfl
    have c4 := I15.out.bxR.cell 4 _ rfl
    have c5 := I15.out.bxR.cell 5 _ rfl
    go_wp2_with fail
    clear c0 c1 c2 c3 c4 c5
    refine Calls.mono (HC7.out gR gS _ I15.out) ?_
    rintro e w16 ⟨rfl, I16⟩
    have c0 := I16.out.bxA.cell 0 _ rfl
    have c1 := I16.out.bxA.cell 1 _ rfl
    have c2 := I16.out.bxA.cell 2 _ rfl
    have c3 := I16.out.bxA.cell 3 _ rfl
    have c4 := I16.out.bxA.cell 4 _ rfl
    have c5 := I16.out.bxA.cell 5 _ rfl
    have d0 := I16.out.bxT.cell 0 _ rfl
    have d1 := I16.out.bxT.cell 1 _ rfl
    have d2 := I16.out.bxT.cell 2 _ rfl
    have d3 := I16.out.bxT.cell 3 _ rfl
    have d4 := I16.out.bxT.cell 4 _ rfl
    have d5 := I16.out.bxT.cell 5 _ rfl
    have f0 := I16.out.bxB.cell 0 _ rfl
    have f1 := I16.out.bxB.cell 1 _ rfl
    have f2 := I16.out.bxB.cell 2 _ rfl
    have f3 := I16.out.bxB.cell 3 _ rfl
    have f4 := I16.out.bxB.cell 4 _ rfl
    have f5 := I16.out.bxB.cell 5 _ rfl
    go_wp2_with fail
    clear c0 c1 c2 c3 c4 c5 d0 d1 d2 d3 d4 d5 f0 f1 f2 f3 f4 f5
    refine Calls.mono (HC8.out gR gS _ I16.out) ?_
    rintro e w17 ⟨rfl, I17⟩
    have c0 := I17.out.bxT.cell 0 _ rfl
    have c1 := I17.out.bxT.cell 1 _ rfl
    have c2 := I17.out.bxT.cell 2 _ rfl
    have c3 := I17.out.bxT.cell 3 _ rfl
    have c4 := I17.out.bxT.cell 4 _ rfl
    have c5 := I17.out.bxT.cell 5 _ rfl
    go_wp2_with fail
    refine Calls.mono (HC9.out gR gS _ I17.out) ?_
    rintro e w18 ⟨rfl, I18⟩
    go_wp2_with fail
    go_ret
    exact ⟨rfl, I18.out.bel⟩
  · generalize hWN : World.alloc _ _ = wN
    obtain ⟨hN, hR, hS⟩ := rungA (W8 := W8) _ _ ((Below.refl W8.heap.size W8).drew.trans BB9.out) hWN.symm
    clear hWN
    generalize w9.heap.size + 1 = gS at hR hS ⊢
    generalize w9.heap.size = gR at hR ⊢
    have IN : Hid (Lie w a b (.slice ada a.parts.length ca) (.slice adb b.parts.length cb) K g0 g1 g2 g3 g4 g5 g6 g7 gR gS wN) := ⟨below_on B8.out hN B8.out.size, S8.out.2.1.next hN, S8.out.2.2.next hN, Z1.out.next hN, Z3.out.next hN, Z5.out.next hN, Z7.out.next hN, hR, sT.out.next hN, sL.out.next hN, sM.out.next hN, sA.out.next hN, sits_node (k := 36) ⟨by decide, by decide⟩ (pat_list [(nodeT K [a, b], (.slice (some ⟨g0, 0, none⟩) 2 2)), (litT 5 ⟨#[]⟩, .slice none 0 0), (nodeT 34 [a], (.slice (some ⟨g6, 0, none⟩) 1 1)), (nodeT 34 [a], (.slice (some ⟨g6, 0, none⟩) 1 1))] hS (by simpa using ⟨sT.out.next hN, sits_num 5 ⟨#[]⟩ wN ⟨by decide, by decide⟩ (Nat.zero_le _), sA.out.next hN⟩) 4 (by simp) (by decide))⟩
    clear hN hR hS Z1 Z3 Z5 Z7 sT sL sM sA S8 B8 HNum sz9 BB9
    have c0 := IN.out.bxT.cell 0 _ rfl
    have c1 := IN.out.bxT.cell 1 _ rfl
    have c2 := IN.out.bxT.cell 2 _ rfl
    have c3 := IN.out.bxT.cell 3 _ rfl
    have c4 := IN.out.bxT.cell 4 _ rfl
    have c5 := IN.out.bxT.cell 5 _ rfl
    go_wp2_with fail
    clear c0 c1 c2 c3 c4 c5
    refine Calls.mono (HC1.out gR gS _ IN.out) ?_
    rintro e w10 ⟨rfl, I10⟩
    have c0 := I10.out.bxL.cell 0 _ rfl
    have c1 := I10.out.bxL.cell 1 _ rfl
    have c2 := I10.out.bxL.cell 2 _ rfl
    have c3 := I10.out.bxL.cell 3 _ rfl
    have c4 := I10.out.bxL.cell 4 _ rfl
    have c5 := I10.out.bxL.cell 5 _ rfl
    go_wp2_with fail
    clear c0 c1 c2 c3 c4 c5
    refine Calls.mono (HC2.out gR gS _ I10.out) ?_
    rintro e w11 ⟨rfl, I11⟩
    have c0 := I11.out.bxM.cell 0 _ rfl
    have c1 := I11.out.bxM.cell 1 _ rfl
    have c2 := I11.out.bxM.cell 2 _ rfl
    have c3 := I11.out.bxM.cell 3 _ rfl
    have c4 := I11.out.bxM.cell 4 _ rfl
    have c5 := I11.out.bxM.cell 5 _ rfl
    go_wp2_with fail
    clear c0 c1 c2 c3 c4 c5
    refine Calls.mono (HC3.out gR gS _ I11.out) ?_
    rintro e w12 ⟨rfl, I12⟩
    have c0 := I12.out.bxT.cell 0 _ rfl
    have c1 := I12.out.bxT.cell 1 _ rfl
    have c2 := I12.out.bxT.cell 2 _ rfl
    have c3 := I12.out.bxT.cell 3 _ rfl
    have c4 := I12.out.bxT.cell 4 _ rfl
    have c5 := I12.out.bxT.cell 5 _ rfl
    go_wp2_with fail
    clear c0 c1 c2 c3 c4 c5
    refine Calls.mono (HC4.out gR gS _ I12.out) ?_
    rintro e w13 ⟨rfl, I13⟩
    have c0 := I13.out.bxO.cell 0 _ rfl
    have c1 := I13.out.bxO.cell 1 _ rfl
    have c2 := I13.out.bxO.cell 2 _ rfl
    have c3 := I13.out.bxO.cell 3 _ rfl
    have c4 := I13.out.bxO.cell 4 _ rfl
    have c5 := I13.out.bxO.cell 5 _ rfl
    go_wp2_with fail
    clear c0 c1 c2 c3 c4 c5
    refine Calls.mono (HC5.out gR gS _ I13.out) ?_
    rintro e w14 ⟨rfl, I14⟩
    have c0 := I14.out.bxO.cell 0 _ rfl
    have c1 := I14.out.bxO.cell 1 _ rfl
    have c2 := I14.out.bxO.cell 2 _ rfl
    have c3 := I14.out.bxO.cell 3 _ rfl
    have c4 := I14.out.bxO.cell 4 _ rfl
    have c5 := I14.out.bxO.cell 5 _ rfl
    go_wp2_with fail
    clear c0 c1 c2 c3 c4 c5
    refine Calls.mono (HC6.out gR gS _ I14.out) ?_
    rintro e w15 ⟨rfl, I15⟩
    have c0 := I15.out.bxR.cell 0 _ rfl
    have c1 := I15.out.bxR.cell 1 _ rfl
    have c2 := I15.out.bxR.cell 2 _ rfl
    have c3 := I15.out.bxR.cell 3 _ rfl
    have c4 := I15.out.bxR.cell 4 _ rfl
    have c5 := I15.out.bxR.cell 5 _ rfl
    go_wp2_with fail
    clear c0 c1 c2 c3 c4 c5
    refine Calls.mono (HC7.out gR gS _ I15.out) ?_
    rintro e w16 ⟨rfl, I16⟩
    have c0 := I16.out.bxA.cell 0 _ rfl
    have c1 := I16.out.bxA.cell 1 _ rfl
    have c2 := I16.out.bxA.cell 2 _ rfl
    have c3 := I16.out.bxA.cell 3 _ rfl
    have c4 := I16.out.bxA.cell 4 _ rfl
    have c5 := I16.out.bxA.cell 5 _ rfl
    have d0 := I16.out.bxT.cell 0 _ rfl
    have d1 := I16.out.bxT.cell 1 _ rfl
    have d2 := I16.out.bxT.cell 2 _ rfl
    have d3 := I16.out.bxT.cell 3 _ rfl
    have d4 := I16.out.bxT.cell 4 _ rfl
    have d5 := I16.out.bxT.cell 5 _ rfl
    have f0 := I16.out.bxB.cell 0 _ rfl
    have f1 := I16.out.bxB.cell 1 _ rfl
    have f2 := I16.out.bxB.cell 2 _ rfl
    have f3 := I16.out.bxB.cell 3 _ rfl
    have f4 := I16.out.bxB.cell 4 _ rfl
    have f5 := I16.out.bxB.cell 5 _ rfl
    go_wp2_with fail
    clear c0 c1 c2 c3 c4 c5 d0 d1 d2 d3 d4 d5 f0 f1 f2 f3 f4 f5
    refine Calls.mono (HC8.out gR gS _ I16.out) ?_
    rintro e w17 ⟨rfl, I17⟩
    have c0 := I17.out.bxT.cell 0 _ rfl
    have c1 := I17.out.bxT.cell 1 _ rfl
    have c2 := I17.out.bxT.cell 2 _ rfl
    have c3 := I17.out.bxT.cell 3 _ rfl
    have c4 := I17.out.bxT.cell 4 _ rfl
    have c5 := I17.out.bxT.cell 5 _ rfl
    go_wp2_with fail
    refine Calls.mono (HC9.out gR gS _ I17.out) ?_
    rintro e w18 ⟨rfl, I18⟩
    go_wp2_with fail
    go_ret
    exact ⟨rfl, I18.out.bel⟩
  · generalize hWN : World.alloc _ _ = wN
    obtain ⟨hN, hS, hR⟩ := rungC _ _ _ _ _ _ _ ((((Below.refl _ _).alloc (Nat.le_refl _) _).drew).trans (BB9.out.mono (by show _ ≤ (World.alloc _ _).heap.size; simp))) (box6 n0 n1 n2 n3 n4 n5 nf0 nf1 nf2 nf3 nf4 nf5) hWN.symm
    clear hWN n0 n1 n2 n3 n4 n5 nf0 nf1 nf2 nf3 nf4 nf5 lt9 ne9
    generalize w9.heap.size = gS at hS hR ⊢
    generalize hgR : W8.heap.size = gR at hR ⊢
    have IN : Hid (Lie w a b (.slice ada a.parts.length ca) (.slice adb b.parts.length cb) K g0 g1 g2 g3 g4 g5 g6 g7 gR gS wN) := ⟨below_on B8.out hN B8.out.size, S8.out.2.1.next hN, S8.out.2.2.next hN, Z1.out.next hN, Z3.out.next hN, Z5.out.next hN, Z7.out.next hN, hR, sT.out.next hN, sL.out.next hN, sM.out.next hN, sA.out.next hN, sits_node (k := 36) ⟨by decide, by decide⟩ (pat_list [(nodeT K [a, b], (.slice (some ⟨g0, 0, none⟩) 2 2)), (litT 5 ⟨#[]⟩, .slice none 0 0), (nodeT 34 [a], (.slice (some ⟨g6, 0, none⟩) 1 1)), (nodeT 34 [a], (.slice (some ⟨g6, 0, none⟩) 1 1))] hS (by simpa using ⟨sT.out.next hN, sits_num 5 ⟨#[]⟩ wN ⟨by decide, by decide⟩ (Nat.zero_le _), sA.out.next hN⟩) 4 (by simp) (by decide))⟩
    clear hN hR hS Z1 Z3 Z5 Z7 sT sL sM sA S8 B8 HNum sz9 BB9
    have c0 := IN.out.bxT.cell 0 _ rfl
    have c1 := IN.out.bxT.cell 1 _ rfl
    have c2 := IN.out.bxT.cell 2 _ rfl
    have c3 := IN.out.bxT.cell 3 _ rfl
    have c4 := IN.out.bxT.cell 4 _ rfl
    have c5 := IN.out.bxT.cell 5 _ rfl
    go_wp2_with fail
    clear c0 c1 c2 c3 c4 c5
    refine Calls.mono (HC1.out gR gS _ IN.out) ?_
    rintro e w10 ⟨rfl, I10⟩
    have c0 := I10.out.bxL.cell 0 _ rfl
    have c1 := I10.out.bxL.cell 1 _ rfl
    have c2 := I10.out.bxL.cell 2 _ rfl
    have c3 := I10.out.bxL.cell 3 _ rfl
    have c4 := I10.out.bxL.cell 4 _ rfl
    have c5 := I10.out.bxL.cell 5 _ rfl
    go_wp2_with fail
    clear c0 c1 c2 c3 c4 c5
    refine Calls.mono (HC2.out gR gS _ I10.out) ?_
    rintro e w11 ⟨rfl, I11⟩
    have c0 := I11.out.bxM.cell 0 _ rfl
    have c1 := I11.out.bxM.cell 1 _ rfl
    have c2 := I11.out.bxM.cell 2 _ rfl
    have c3 := I11.out.bxM.cell 3 _ rfl
    have c4 := I11.out.bxM.cell 4 _ rfl
    have c5 := I11.out.bxM.cell 5 _ rfl
    go_wp2_with fail
    clear c0 c1 c2 c3 c4 c5
    refine Calls.mono (HC3.out gR gS _ I11.out) ?_
    rintro e w12 ⟨rfl, I12⟩
    have c0 := I12.out.bxT.cell 0 _ rfl
    have c1 := I12.out.bxT.cell 1 _ rfl
    have c2 := I12.out.bxT.cell 2 _ rfl
    have c3 := I12.out.bxT.cell 3 _ rfl
    have c4 := I12.out.bxT.cell 4 _ rfl
    have c5 := I12.out.bxT.cell 5 _ rfl
    go_wp2_with fail
    clear c0 c1 c2 c3 c4 c5
    refine Calls.mono (HC4.out gR gS _ I12.out) ?_
    rintro e w13 ⟨rfl, I13⟩
    have c0 := I13.out.bxO.cell 0 _ rfl
    have c1 := I13.out.bxO.cell 1 _ rfl
    have c2 := I13.out.bxO.cell 2 _ rfl
    have c3 := I13.out.bxO.cell 3 _ rfl
    have c4 := I13.out.bxO.cell 4 _ rfl
    have c5 := I13.out.bxO.cell 5 _ rfl
    go_wp2_with fail
    clear c0 c1 c2 c3 c4 c5
    refine Calls.mono (HC5.out gR gS _ I13.out) ?_
    rintro e w14 ⟨rfl, I14⟩
    have c0 := I14.out.bxO.cell 0 _ rfl
    have c1 := I14.out.bxO.cell 1 _ rfl
    have c2 := I14.out.bxO.cell 2 _ rfl
    have c3 := I14.out.bxO.cell 3 _ rfl
    have c4 := I14.out.bxO.cell 4 _ rfl
    have c5 := I14.out.bxO.cell 5 _ rfl
    go_wp2_with fail
    clear c0 c1 c2 c3 c4 c5
    refine Calls.mono (HC6.out gR gS _ I14.out) ?_
    rintro e w15 ⟨rfl, I15⟩
    have c0 := I15.out.bxR.cell 0 _ rfl
    have c1 := I15.out.bxR.cell 1 _ rfl
    have c2 := I15.out.bxR.cell 2 _ rfl
    have c3 := I15.out.bxR.cell 3 _ rfl
    have c4 := I15.out.bxR.cell 4 _ rfl
    have c5 := I15.out.bxR.cell 5 _ rfl
    go_wp2_with fail
    clear c0 c1 c2 c3 c4 c5
    refine Calls.mono (HC7.out gR gS _ I15.out) ?_
    rintro e w16 ⟨rfl, I16⟩
    have c0 := I16.out.bxA.cell 0 _ rfl
    have c1 := I16.out.bxA.cell 1 _ rfl
    have c2 := I16.out.bxA.cell 2 _ rfl
    have c3 := I16.out.bxA.cell 3 _ rfl
    have c4 := I16.out.bxA.cell 4 _ rfl
    have c5 := I16.out.bxA.cell 5 _ rfl
    have d0 := I16.out.bxT.cell 0 _ rfl
    have d1 := I16.out.bxT.cell 1 _ rfl
    have d2 := I16.out.bxT.cell 2 _ rfl
    have d3 := I16.out.bxT.cell 3 _ rfl
    have d4 := I16.out.bxT.cell 4 _ rfl
    have d5 := I16.out.bxT.cell 5 _ rfl
    have f0 := I16.out.bxB.cell 0 _ rfl
    have f1 := I16.out.bxB.cell 1 _ rfl
    have f2 := I16.out.bxB.cell 2 _ rfl
    have f3 := I16.out.bxB.cell 3 _ rfl
    have f4 := I16.out.bxB.cell 4 _ rfl
    have f5 := I16.out.bxB.cell 5 _ rfl
    go_wp2_with fail
    clear c0 c1 c2 c3 c4 c5 d0 d1 d2 d3 d4 d5 f0 f1 f2 f3 f4 f5
    refine Calls.mono (HC8.out gR gS _ I16.out) ?_
    rintro e w17 ⟨rfl, I17⟩
    have c0 := I17.out.bxT.cell 0 _ rfl
    have c1 := I17.out.bxT.cell 1 _ rfl
    have c2 := I17.out.bxT.cell 2 _ rfl
    have c3 := I17.out.bxT.cell 3 _ rfl
    have c4 := I17.out.bxT.cell 4 _ rfl
    have c5 := I17.out.bxT.cell 5 _ rfl
    go_wp2_with fail
    refine Calls.mono (HC9.out gR gS _ I17.out) ?_
    rintro e w18 ⟨rfl, I18⟩
    go_wp2_with fail
    go_ret
    exact ⟨rfl, I18.out.bel⟩
end Go.Proofs.YtdikeicnefgjcabDoor

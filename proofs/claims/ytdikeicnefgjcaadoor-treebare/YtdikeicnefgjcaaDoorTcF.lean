/- Package tree: each over one item; BarePolicy. -/
import Derived.Test.YtdikeicnefgjcaaDoorTcE
import Derived.Test.YtdikeicnefgjcaaDoorTsD
namespace Go.Proofs.YtdikeicnefgjcaaDoor
open Go.RowKit

theorem info_itemB : (Tryd.prog.info? 32).map (fun i => (i.zero, i.size, i.bytes)) = some (some (.agg zeroIt), 19, 216) := by kernel_rfl
/-- One item without its places, in new memory. -/
def NewI (z : Nat) (k : Int) (nm : ByteArray) (x y : Tm) (w : World) (e : Ending) (w' : World) : Prop :=
  ∃ g ux uy, w.heap.size ≤ g ∧ e = .returned (.slice (some ⟨g, 0, none⟩) 1 1) ∧ Box w' g (itL k nm (bareT x) ux (bareT y) uy 0) ∧ SitsL w.heap.size z w' (bareT x) ux ∧ SitsL w.heap.size z w' (bareT y) uy ∧ Below w.heap.size w w'
set_option maxRecDepth 20000 in
set_option maxHeartbeats 4000000 in
theorem eachItem_c {z : Nat} (hz : z ≤ 281474976710656) (k : Int) (nm : ByteArray) (hnm : nm.size ≤ 281474976710656) (x : Tm) (vx : Value) (y : Tm) (vy : Value) (p : Int) (g c : Nat) (w : World) (hx : Sits z w x vx) (hy : Sits z w y vy) (nx : nodes x ≤ 16384) (ny : nodes y ≤ 16384) (hb : Box w g (itL k nm x vx y vy p)) :
    Calls Tryd.prog 57 #[.slice (some ⟨g, 0, none⟩) 1 c, .func (.func 58) #[] #[]] w (NewI z k nm x y w) := by
  have HC := hid2 (fun wx (hb : Below w.heap.size w wx) => bareItem_c hz k nm hnm x vx y vy p wx (hx.next hb) (hy.next hb) nx ny)
  obtain ⟨i0, hi, hz0, hz1, hz2⟩ := info_parts info_itemB
  obtain ⟨ad1, cp1, rfl, -, -⟩ := hx.parts.shape
  obtain ⟨ad2, cp2, rfl, -, -⟩ := hy.parts.shape
  obtain ⟨L, hL⟩ : ∃ L, Hid (L = itL k nm x (.slice ad1 x.parts.length cp1) y (.slice ad2 y.parts.length cp2) p) := ⟨_, rfl⟩
  simp only [itL_arr] at HC
  rw [← hL.out] at hb HC
  have n1 : Hid (L.length = 19) := by rw [hL.out]; rfl
  have o1 : Hid (L.toArray.all (·.oneCell') = true) := by rw [hL.out]; show _ = _; kernel_rfl
  obtain ⟨X, hX⟩ : ∃ X, Hid (X = L.toArray) := ⟨_, rfl⟩
  rw [← hX.out] at HC o1
  have s1 : X.size = 19 := by rw [hX.out]; simpa using n1.out
  obtain ⟨m, hm⟩ : ∃ m : Nat, Hid (m = 19) := ⟨_, rfl⟩
  have HB0 := hid2 hb
  clear hx hy hb
  go_enter Tryd.func57, Tryd.ntmps57
  go_wp2_with (at_make; refine wpList_make_full _ rfl _ _ 28 rfl w.heap.size 32 i0 (.agg zeroIt) 19 Tryd.underlying28 hi hz0 hz1 _ _ _ _ 1 rfl rfl rfl rfl (by rw [hz2]; omega) (by unfold maxLen; omega) (Nat.le_refl _) ?_; intro w1 hown hgrow)
  have hb1 : Hid (Below w.heap.size w w1) := (Below.refl _ _).grown hgrow (Nat.le_refl _) (by simp)
  obtain ⟨cur, hcur, hcs⟩ : ∃ cur : Array Value, Hid (w1.heap[w.heap.size]? = some (.cells cur 32 (0, 0))) ∧ Hid (cur.size = 19) := by
    rcases hown.2 with ⟨h, _⟩ | ⟨g', cap, cur, h, _, hh, _, _, hs, _⟩
    · cases h
    · cases h
      exact ⟨cur, hh, hs⟩
  clear hown hgrow
  have zs : ∀ w, (sizeOf 32).run Tryd.prog w = .ok m w := by rw [hm.out]; exact Tryd.sizeOf32
  have zm : (19 = m) = True := eq_true hm.out.symm
  go_loopw [16] (fun i wr => ∃ j : Nat, i = .int .i64 (j : Nat) ∧ j ≤ 1 ∧ Hid (Below w.heap.size w wr) ∧ Hid (j = 0 → wr.heap[w.heap.size]? = some (.cells cur 32 (0, 0))) ∧ Hid (j = 1 → ∃ ux uy, Box wr w.heap.size (itL k nm (bareT x) ux (bareT y) uy 0) ∧ SitsL w.heap.size z wr (bareT x) ux ∧ SitsL w.heap.size z wr (bareT y) uy)) (fun i _ => match i with | .int _ q => ((1 : Int) - q).toNat | _ => 0)
  case atStart => exact ⟨0, rfl, by omega, hb1, hid2 (fun _ => hcur.out), hid2 (fun h => by omega)⟩
  case round =>
    obtain ⟨j, rfl, hj, HB, HH, HJ⟩ := hrel
    by_cases hlt : j = 1
    · subst hlt
      clear HC
      go_wp2_with fail
      go_ret
      obtain ⟨ux, uy, q1, q2, q3⟩ := HJ.out trivial
      exact ⟨_, ux, uy, Nat.le_refl _, rfl, q1, q2, q3, HB.out⟩
    · have e0 : j = 0 := by omega
      subst e0
      have HH0 := hid2 (HH.out rfl)
      have lb : g < wr.heap.size := Nat.lt_of_lt_of_le HB0.out.lt HB.out.size
      have lw : w.heap.size < wr.heap.size := (Array.getElem?_eq_some_iff.1 HH0.out).1
      have ldA := ld_box (HB0.out.next HB.out) hX.out (hm.out.trans n1.out.symm)
      have stA := st_item wr s1 o1.out
      obtain ⟨X0, XB⟩ := one_box wr 32 L
      rw [← hX.out] at X0 XB
      have ldC := ld_box X0 hX.out (hm.out.trans n1.out.symm)
      have HA : Hid (Below w.heap.size w (wr.alloc (.cells X 32))) := HB.out.alloc HB.out.size _
      have HA2 := hid2 XB
      clear X0 XB
      unfold zeroIt at stA
      go_wp2_with fail
      refine Calls.mono (HC.out _ HA.out) ?_
      rintro e w2 ⟨ux, uy, rfl, sx, sy, b2⟩
      have BW := hid2 (below_on HA.out b2 HA.out.size)
      have BH2 : Hid (w2.heap[w.heap.size]? = some (.cells cur 32 (0, 0))) := (b2.block _ (by simp; omega)).trans ((HA2.out.block _ lw).trans HH0.out)
      have SX : Hid (SitsL (w.heap.size + 1) z w2 (bareT x) ux) := SitsL.keep (by simp; omega) (Nat.le_refl _) (fun _ _ _ _ => rfl) _ _ sx
      have SY : Hid (SitsL (w.heap.size + 1) z w2 (bareT y) uy) := SitsL.keep (by simp; omega) (Nat.le_refl _) (fun _ _ _ _ => rfl) _ _ sy
      obtain ⟨ax, cx, rfl⟩ := (sitsL_iff.1 sx).2.shape
      obtain ⟨ay, cy, rfl⟩ := (sitsL_iff.1 sy).2.shape
      clear b2 HC HA HA2 HH HJ ldA stA ldC sx sy
      obtain ⟨L2, hL2⟩ : ∃ L, Hid (L = itL k nm (bareT x) (.slice ax (bareT x).parts.length cx) (bareT y) (.slice ay (bareT y).parts.length cy) 0) := ⟨_, rfl⟩
      rw [← hL2.out]
      have n2 : Hid (L2.length = 19) := by rw [hL2.out]; rfl
      have o2 : Hid (L2.toArray.all (·.oneCell') = true) := by rw [hL2.out]; show _ = _; kernel_rfl
      obtain ⟨X2, hX2⟩ : ∃ X, Hid (X = L2.toArray) := ⟨_, rfl⟩
      rw [← hX2.out] at o2 ⊢
      have s2 : X2.size = 19 := by rw [hX2.out]; simpa using n2.out
      have lw2 : w.heap.size < w2.heap.size := (Array.getElem?_eq_some_iff.1 BH2.out).1
      have stB := st_row BH2.out (hcs.out.trans s2.symm) o2.out
      have BX2 : Hid (Box (w2.setRow w.heap.size X2) w.heap.size (itL k nm (bareT x) (.slice ax (bareT x).parts.length cx) (bareT y) (.slice ay (bareT y).parts.length cy) 0)) := by
        have := box_row (X := X2) BH2.out
        rw [hX2.out, ← hL2.out]
        rw [hX2.out] at this
        exact this
      go_wp2_with fail
      go_roundw
      case rel => exact ⟨1, by go_num, by omega, hid2 (below_setRow BW.out (Nat.le_refl _) _), hid2 (fun h => by omega), hid2 (fun _ => ⟨_, _, BX2.out, SitsL.keep (Nat.le_succ _) (Nat.le_refl _) (fun _ _ _ _ => rfl) _ _ (sits_row (by omega) SX.out), SitsL.keep (Nat.le_succ _) (Nat.le_refl _) (fun _ _ _ _ => rfl) _ _ (sits_row (by omega) SY.out)⟩)⟩
      case measure => simp
set_option maxRecDepth 20000 in
set_option maxHeartbeats 4000000 in
theorem barePol_c {z : Nat} (hz : z ≤ 281474976710656) (pn : ByteArray) (hpn : pn.size ≤ 281474976710656) (k : Int) (nm : ByteArray) (hnm : nm.size ≤ 281474976710656) (x : Tm) (vx : Value) (y : Tm) (vy : Value) (p : Int) (g c : Nat) (w : World) (hx : Sits z w x vx) (hy : Sits z w y vy) (nx : nodes x ≤ 16384) (ny : nodes y ≤ 16384) (hb : Box w g (itL k nm x vx y vy p)) :
    Calls Tryd.prog 31 #[polV pn (.slice (some ⟨g, 0, none⟩) 1 c)] w fun e w' => ∃ g' ux uy, w.heap.size ≤ g' ∧ e = .returned (polV pn (.slice (some ⟨g', 0, none⟩) 1 1)) ∧ Box w' g' (itL k nm (bareT x) ux (bareT y) uy 0) ∧ Sits z w' (bareT x) ux ∧ Sits z w' (bareT y) uy ∧ Below w.heap.size w w' := by
  obtain ⟨X0, X1, XB⟩ := two_boxes w 30 30 [.string pn, .slice (some ⟨g, 0, none⟩) 1 c] [.string ⟨#[]⟩, .slice none 0 0]
  have hsz : ((w.alloc (.cells [.string pn, .slice (some ⟨g, 0, none⟩) 1 c].toArray 30)).alloc (.cells [.string ⟨#[]⟩, .slice none 0 0].toArray 30)).heap.size = w.heap.size + 2 := by simp
  have HE := hid2 (fun wx (h : Below w.heap.size w wx) => eachItem_c hz k nm hnm x vx y vy p g c wx (hx.next h) (hy.next h) nx ny (hb.next h))
  have BX := hid2 X0
  have BY := hid2 X1
  have BB := hid2 XB
  have BS := hid2 hsz
  clear X0 X1 XB hsz hx hy hb
  unfold polV
  go_enter Tryd.func31, Tryd.ntmps31
  go_wp2_with fail
  generalize hw1 : ((w.alloc _).alloc _) = w1 at BX BY BB BS ⊢
  clear hw1
  have lx := BX.out.lt
  have c0 : w1.cell? ⟨w.heap.size, 0, none⟩ = some (.string pn) := BX.out.cell 0 _ rfl
  have c1 : w1.cell? ⟨w.heap.size, 1, none⟩ = some (.slice (some ⟨g, 0, none⟩) 1 c) := BX.out.cell 1 _ rfl
  have HK : Hid (∀ wx, Below w1.heap.size w1 wx → Calls Tryd.prog 50 #[.string pn] wx fun e w' => e = .returned (.string pn) ∧ Hid (Below w1.heap.size w1 w')) := fun wx hb => (clone_c pn hpn wx).mono fun e w' h => ⟨h.1, below_on hb h.2 hb.size⟩
  have HE1 : Hid (∀ wx, Below w1.heap.size w1 wx → Calls Tryd.prog 57 #[.slice (some ⟨g, 0, none⟩) 1 c, .func (.func 58) #[] #[]] wx fun e w' => ∃ g' ux uy, e = .returned (.slice (some ⟨g', 0, none⟩) 1 1) ∧ Hid (w1.heap.size ≤ g') ∧ Hid (Box w' g' (itL k nm (bareT x) ux (bareT y) uy 0)) ∧ Hid (SitsL w1.heap.size z w' (bareT x) ux) ∧ Hid (SitsL w1.heap.size z w' (bareT y) uy) ∧ Hid (Below w1.heap.size w1 w')) := fun wx hb => (HE.out wx (below_on BB.out hb BB.out.size)).mono fun e w' ⟨g', ux, uy, h1, h2, h3, h4, h5, h6⟩ => ⟨g', ux, uy, h2, Nat.le_trans hb.size h1, h3, SitsL.keep hb.size (Nat.le_refl _) (fun _ _ _ _ => rfl) _ _ h4, SitsL.keep hb.size (Nat.le_refl _) (fun _ _ _ _ => rfl) _ _ h5, below_on hb h6 hb.size⟩
  have KY := hid2 (fun (wx : World) (hb : Below w1.heap.size w1 wx) => BY.out.next hb)
  clear HE
  go_region_with (first | (go_at_call 50; (with_reducible refine Calls.mono (HK.out _ ?_) ?_); exact (below_drewN (Below.refl _ _) _); rintro e w2 ⟨rfl, B2⟩; have d1 := (B2.out.cell (p := ⟨w.heap.size, 1, none⟩) lx).trans c1) | (go_at_call 57; (with_reducible refine Calls.mono (HE1.out _ ?_) ?_); exact B2.out; rintro e w3 ⟨g', ux, uy, rfl, G3, BI3, SX3, SY3, B3⟩; have k0 := (KY.out _ B3.out).cell 0 _ rfl; have k1 := (KY.out _ B3.out).cell 1 _ rfl; have k2 := (KY.out _ B3.out).free 0 (by simp); have k3 := (KY.out _ B3.out).free 1 (by simp)))
  all_goals
    have hne : w.heap.size + 1 < g' := by have := G3.out; have := BS.out; omega
    have ne1 : g' ≠ w.heap.size + 1 := by omega
    have BI4 := hid2 ((BI3.out.other (q := w.heap.size + 1) (j := 0) (v := .string pn) ne1).other (q := w.heap.size + 1) (j := 1) (v := .slice (some ⟨g', 0, none⟩) 1 1) ne1)
    have B4 := hid2 (((below_on BB.out B3.out BB.out.size).setCell (p := ⟨w.heap.size + 1, 0, none⟩) (Nat.le_succ _) (.string pn)).setCell (p := ⟨w.heap.size + 1, 1, none⟩) (Nat.le_succ _) (.slice (some ⟨g', 0, none⟩) 1 1))
    have hq : Hid (∀ (wx : World) (o : Nat) (u : Value) (t : Tm) (v : Value), SitsL w1.heap.size z wx t v → SitsL w1.heap.size z (wx.setCell ⟨w.heap.size + 1, o, none⟩ u) t v) := fun wx o u t v h => SitsL.keep (Nat.le_refl _) (by simp) (fun b j hb _ => World.cell?_setCell_far _ _ _ _ (by have := BS.out; simp; omega)) _ _ h
    have SX4 := hid2 (hq.out _ 1 (.slice (some ⟨g', 0, none⟩) 1 1) _ _ (hq.out _ 0 (.string pn) _ _ SX3.out)).sits
    have SY4 := hid2 (hq.out _ 1 (.slice (some ⟨g', 0, none⟩) 1 1) _ _ (hq.out _ 0 (.string pn) _ _ SY3.out)).sits
    have HG : Hid (w.heap.size ≤ g') := by show _ ≤ _; omega
    clear hq SX3 SY3 BI3 B3 BB KY HE1 HK d1 c0 c1 hne ne1
    go_wp2_with fail
    refine bodyPost_ret (v := .agg #[.string pn, .slice (some ⟨g', 0, none⟩) 1 1]) (by simp [results, Tryd.results31, go_sem, *]) rfl ?_
    exact ⟨g', ux, uy, HG.out, rfl, BI4.out, SX4.out, SY4.out, B4.out⟩
end Go.Proofs.YtdikeicnefgjcaaDoor

/- Package tree: bareItem. -/
import Derived.Test.YtdikeicnefgjcaaDoorTcC
import Derived.Test.YtdikeicnefgjcaaDoorTsD
import Derived.Laws.CopyOwn
import Derived.Deep.RegionHeld3
import Derived.Deep.RegionWith
namespace Go.Proofs.YtdikeicnefgjcaaDoor
open Go.RowKit

theorem set6_below {s : Nat} {w w' : World} {g : Nat} (h : Below s w w') (hg : s ≤ g) (o : Nat) (v0 v1 v2 v3 v4 v5 : Value) : Below s w (set6 w' g o v0 v1 v2 v3 v4 v5) := by
  unfold set6
  exact (((((h.setCell hg _).setCell hg _).setCell hg _).setCell hg _).setCell hg _).setCell hg _
theorem set6_block (w : World) (g o : Nat) (v0 v1 v2 v3 v4 v5 : Value) {b : Nat} (hb : b ≠ g) : (set6 w g o v0 v1 v2 v3 v4 v5).heap[b]? = w.heap[b]? := by
  unfold set6
  rw [Below.heap_setCell _ _ _ _ (by simpa using hb), Below.heap_setCell _ _ _ _ (by simpa using hb), Below.heap_setCell _ _ _ _ (by simpa using hb), Below.heap_setCell _ _ _ _ (by simpa using hb), Below.heap_setCell _ _ _ _ (by simpa using hb), Below.heap_setCell _ _ _ _ (by simpa using hb)]
theorem st_row {w : World} {g : Nat} {Z X : Array Value} {t : TypeId} (hg : w.heap[g]? = some (.cells Z t (0, 0))) (hs : Z.size = X.size) (h1 : X.all (·.oneCell') = true) : (storeCells ⟨g, 0, none⟩ X.toList 0).run Tryd.prog w = .ok () (w.setRow g X) := by
  have := run_storeCells_from (P := Tryd.prog) g t X.toList 0 Z w hg (by simp; omega) (fun v hv => (Array.all_eq_true_iff_forall_mem.1 h1) v (by simpa using hv))
  rw [this]
  simp only [List.take_zero, List.nil_append, Array.toArray_toList]
theorem box_row {w : World} {g : Nat} {Z X : Array Value} {t : TypeId} (hg : w.heap[g]? = some (.cells Z t (0, 0))) : Box (w.setRow g X) g X.toList := Box.ofBlock (setRow_heap w g Z X t _ hg)
theorem sits_row {lo z : Nat} {w : World} {g : Nat} {X : Array Value} {t : Tm} {v : Value} (hg : g < lo) (h : SitsL lo z w t v) : SitsL lo z (w.setRow g X) t v :=
  SitsL.keep (Nat.le_refl _) (by simp) (fun b j hb _ => World.cell?_of_block (setRow_other w g b X (by omega))) t v h
set_option maxRecDepth 20000 in
set_option maxHeartbeats 4000000 in
theorem bareItem_c {z : Nat} (hz : z ≤ 281474976710656) (k : Int) (nm : ByteArray) (hnm : nm.size ≤ 281474976710656) (x : Tm) (vx : Value) (y : Tm) (vy : Value) (p : Int) (w : World) (hx : Sits z w x vx) (hy : Sits z w y vy) (nx : nodes x ≤ 16384) (ny : nodes y ≤ 16384) :
    Calls Tryd.prog 58 #[itV k nm x vx y vy p] w fun e w' => ∃ ux uy, e = .returned (itV k nm (bareT x) ux (bareT y) uy 0) ∧ SitsL (w.heap.size + 2) z w' (bareT x) ux ∧ SitsL (w.heap.size + 2) z w' (bareT y) uy ∧ Below w.heap.size w w' := by
  have HX := hid2 (fun wx (hb : Below w.heap.size w wx) => bare_all hz x vx wx (hx.next hb) nx)
  have HY := hid2 (fun wx (hb : Below w.heap.size w wx) => bare_all hz y vy wx (hy.next hb) ny)
  obtain ⟨ad1, cp1, rfl, -, -⟩ := hx.parts.shape
  obtain ⟨ad2, cp2, rfl, -, -⟩ := hy.parts.shape
  clear hx hy
  obtain ⟨X0, X1, XB⟩ := two_boxes w 32 32 (itL k nm x (.slice ad1 x.parts.length cp1) y (.slice ad2 y.parts.length cp2) 0) zeroIt.toList
  have hh : ((w.alloc (.cells (itL k nm x (.slice ad1 x.parts.length cp1) y (.slice ad2 y.parts.length cp2) 0).toArray 32)).alloc (.cells zeroIt.toList.toArray 32)).heap[w.heap.size + 1]? = some (.cells zeroIt 32 (0, 0)) := by
    have := heap_new (w.alloc (.cells (itL k nm x (.slice ad1 x.parts.length cp1) y (.slice ad2 y.parts.length cp2) 0).toArray 32)) (.cells zeroIt.toList.toArray 32)
    simpa using this
  have hsz : ((w.alloc (.cells (itL k nm x (.slice ad1 x.parts.length cp1) y (.slice ad2 y.parts.length cp2) 0).toArray 32)).alloc (.cells zeroIt.toList.toArray 32)).heap.size = w.heap.size + 2 := by simp
  unfold zeroIt at X0 X1 XB hh hsz
  unfold itV
  unfold itL at X0 X1 XB hh hsz
  have BX := hid2 X0
  have BB := hid2 XB
  have BH := hid2 hh
  have BS := hid2 hsz
  clear X0 X1 XB hh hsz
  go_enter Tryd.func58, Tryd.ntmps58
  go_wp2_with fail
  generalize hw1 : ((w.alloc _).alloc _) = w1 at BX BB BH BS ⊢
  clear hw1
  have lx := BX.out.lt
  have c1 : w1.cell? ⟨w.heap.size, 1, none⟩ = some (.string nm) := BX.out.cell 1 _ rfl
  have c2 : w1.cell? ⟨w.heap.size, 2, none⟩ = some (.string ⟨#[]⟩) := BX.out.cell 2 _ rfl
  have f1 : w1.frozen? ⟨w.heap.size, 1, none⟩ = false := BX.out.free 1 (by simp)
  have f2 : w1.frozen? ⟨w.heap.size, 2, none⟩ = false := BX.out.free 2 (by simp)
  have HK : Hid (∀ wx, Below w1.heap.size w1 wx → Calls Tryd.prog 50 #[.string nm] wx fun e w' => e = .returned (.string nm) ∧ Hid (Below w1.heap.size w1 w')) := fun wx hb => (clone_c nm hnm wx).mono fun e w' h => ⟨h.1, below_on hb h.2 hb.size⟩
  have HK0 : Hid (∀ wx, Below w1.heap.size w1 wx → Calls Tryd.prog 50 #[.string ⟨#[]⟩] wx fun e w' => e = .returned (.string ⟨#[]⟩) ∧ Hid (Below w1.heap.size w1 w')) := fun wx hb => (clone_c ⟨#[]⟩ (by decide) wx).mono fun e w' h => ⟨h.1, below_on hb h.2 hb.size⟩
  go_region_held3 (fun w' => w'.cell? ⟨w.heap.size, 1, none⟩ = some (.string nm) ∧ w'.cell? ⟨w.heap.size, 2, none⟩ = some (.string ⟨#[]⟩) ∧ w'.frozen? ⟨w.heap.size, 1, none⟩ = false ∧ w'.frozen? ⟨w.heap.size, 2, none⟩ = false) (simp [go_sem, *]) (first | (go_at_call 50; (first | (with_reducible refine Calls.mono (HK.out _ ?_) ?_) | (with_reducible refine Calls.mono (HK0.out _ ?_) ?_)); (first | exact below_drewN (Below.refl _ _) _ | exact BW.out); rintro e wn ⟨rfl, BW⟩; have d1 := (BW.out.cell (p := ⟨w.heap.size, 1, none⟩) lx).trans c1; have d2 := (BW.out.cell (p := ⟨w.heap.size, 2, none⟩) lx).trans c2; have d3 := (BW.out.frozen (p := ⟨w.heap.size, 1, none⟩) lx).trans f1; have d4 := (BW.out.frozen (p := ⟨w.heap.size, 2, none⟩) lx).trans f2))
  have B4 : Hid (Below w.heap.size w ((wn.setCell ⟨w.heap.size, 1, none⟩ (.string nm)).setCell ⟨w.heap.size, 2, none⟩ (.string ⟨#[]⟩))) := ((below_on BB.out BW.out BB.out.size).setCell (Nat.le_refl _) _).setCell (Nat.le_refl _) _
  have X4 := ((BX.out.next BW.out).set 1 (by simp) (.string nm)).set 2 (by simp) (.string ⟨#[]⟩)
  have BX4 : Hid (Box ((wn.setCell ⟨w.heap.size, 1, none⟩ (.string nm)).setCell ⟨w.heap.size, 2, none⟩ (.string ⟨#[]⟩)) w.heap.size (itL k nm x (.slice ad1 x.parts.length cp1) y (.slice ad2 y.parts.length cp2) 0)) := X4
  have BH4 : Hid (((wn.setCell ⟨w.heap.size, 1, none⟩ (.string nm)).setCell ⟨w.heap.size, 2, none⟩ (.string ⟨#[]⟩)).heap[w.heap.size + 1]? = some (.cells zeroIt 32 (0, 0))) := by
    show _ = _
    rw [Below.heap_setCell _ _ _ _ (by simp), Below.heap_setCell _ _ _ _ (by simp), BW.out.block _ (by rw [BS.out]; omega)]
    exact BH.out
  have BS4 : Hid (w.heap.size + 2 ≤ ((wn.setCell ⟨w.heap.size, 1, none⟩ (.string nm)).setCell ⟨w.heap.size, 2, none⟩ (.string ⟨#[]⟩)).heap.size) := by
    have := BW.out.size
    have := BS.out
    show _ ≤ _
    simp
    omega
  clear X4 BX BB BH BS lx c1 c2 f1 f2 d1 d2 d3 d4 HK HK0 BW
  go_wp2_with fail
  generalize (wn.setCell ⟨w.heap.size, 1, none⟩ (.string nm)).setCell ⟨w.heap.size, 2, none⟩ (.string ⟨#[]⟩) = w4 at BX4 B4 BH4 BS4 ⊢
  have lx := BX4.out.lt
  obtain ⟨c6, c7, c8, c9, c10, c11⟩ := it_x BX4.out
  obtain ⟨c12, c13, c14, c15, c16, c17⟩ := it_y BX4.out
  have HX4 : Hid (∀ wx, Below w4.heap.size w4 wx → Calls Tryd.prog 29 #[tmV x (.slice ad1 x.parts.length cp1)] wx fun e w' => ∃ u, e = .returned (tmV (bareT x) u) ∧ Hid (SitsL w4.heap.size z w' (bareT x) u) ∧ Hid (Below w4.heap.size w4 w')) := fun wx hb => (HX.out wx (below_on B4.out hb B4.out.size)).mono fun e w' ⟨u, h1, h2, h3⟩ => ⟨u, h1, SitsL.keep hb.size (Nat.le_refl _) (fun _ _ _ _ => rfl) _ _ h2, below_on hb h3 hb.size⟩
  have HY4 : Hid (∀ wx, Below w4.heap.size w4 wx → Calls Tryd.prog 29 #[tmV y (.slice ad2 y.parts.length cp2)] wx fun e w' => ∃ u, e = .returned (tmV (bareT y) u) ∧ Hid (SitsL w4.heap.size z w' (bareT y) u) ∧ Hid (Below wx.heap.size wx w') ∧ Hid (Below w4.heap.size w4 w')) := fun wx hb => (HY.out wx (below_on B4.out hb B4.out.size)).mono fun e w' ⟨u, h1, h2, h3⟩ => ⟨u, h1, SitsL.keep hb.size (Nat.le_refl _) (fun _ _ _ _ => rfl) _ _ h2, h3, below_on hb h3 hb.size⟩
  clear HX HY
  have KC := hid2 (fun (wx : World) (hb : Below w4.heap.size w4 wx) => it_y (BX4.out.next hb))
  have KX := hid2 (fun (wx : World) (hb : Below w4.heap.size w4 wx) => it_x (BX4.out.next hb))
  have KF := hid2 (fun (wx : World) (hb : Below w4.heap.size w4 wx) (i : Nat) (hi : i < 19) => (BX4.out.next hb).free i hi)
  go_region_with (first | (go_at_call 29; (with_reducible refine Calls.mono (HX4.out _ ?_) ?_); exact (below_drewN (Below.refl _ _) _); rintro e w5 ⟨ux, rfl, SX, B5⟩; obtain ⟨ax, cx, rfl⟩ := (sitsL_iff.1 SX.out).2.shape; obtain ⟨e12, e13, e14, e15, e16, e17⟩ := KC.out _ B5.out) | (go_at_call 29; (with_reducible refine Calls.mono (HY4.out _ ?_) ?_); exact B5.out; rintro e w6 ⟨uy, rfl, SY, B56, B6⟩; obtain ⟨ay, cy, rfl⟩ := (sitsL_iff.1 SY.out).2.shape; obtain ⟨k12, k13, k14, k15, k16, k17⟩ := KC.out _ B6.out; obtain ⟨k6, k7, k8, k9, k10, k11⟩ := KX.out _ B6.out; have g6 := KF.out _ B6.out 6 (by omega); have g7 := KF.out _ B6.out 7 (by omega); have g8 := KF.out _ B6.out 8 (by omega); have g9 := KF.out _ B6.out 9 (by omega); have g10 := KF.out _ B6.out 10 (by omega); have g11 := KF.out _ B6.out 11 (by omega); have g12 := KF.out _ B6.out 12 (by omega); have g13 := KF.out _ B6.out 13 (by omega); have g14 := KF.out _ B6.out 14 (by omega); have g15 := KF.out _ B6.out 15 (by omega); have g16 := KF.out _ B6.out 16 (by omega); have g17 := KF.out _ B6.out 17 (by omega)))
  all_goals
    have BX7 : Hid (Box (set6 (set6 w6 w.heap.size 6 (.int .i64 (bareT x).kind) (.string (bareT x).text) (.int .i64 (bareT x).n) (.int .i64 (bareT x).m) (.int .i64 (bareT x).pl) (.slice ax (bareT x).parts.length cx)) w.heap.size 12 (.int .i64 (bareT y).kind) (.string (bareT y).text) (.int .i64 (bareT y).n) (.int .i64 (bareT y).m) (.int .i64 (bareT y).pl) (.slice ay (bareT y).parts.length cy)) w.heap.size (itL k nm (bareT x) (.slice ax (bareT x).parts.length cx) (bareT y) (.slice ay (bareT y).parts.length cy) 0)) := ((BX4.out.next B6.out).put6 6 (by unfold itL; simp) _ _ _ _ _ _).put6 12 (by unfold put6 itL; simp) _ _ _ _ _ _
    have S7x : Hid (SitsL (w.heap.size + 2) z (set6 (set6 w6 w.heap.size 6 (.int .i64 (bareT x).kind) (.string (bareT x).text) (.int .i64 (bareT x).n) (.int .i64 (bareT x).m) (.int .i64 (bareT x).pl) (.slice ax (bareT x).parts.length cx)) w.heap.size 12 (.int .i64 (bareT y).kind) (.string (bareT y).text) (.int .i64 (bareT y).n) (.int .i64 (bareT y).m) (.int .i64 (bareT y).pl) (.slice ay (bareT y).parts.length cy)) (bareT x) (.slice ax (bareT x).parts.length cx)) := set6_sits (by omega) (set6_sits (by omega) (SitsL.keep BS4.out (Nat.le_refl _) (fun _ _ _ _ => rfl) _ _ (SX.out.next B56.out)))
    have S7y : Hid (SitsL (w.heap.size + 2) z (set6 (set6 w6 w.heap.size 6 (.int .i64 (bareT x).kind) (.string (bareT x).text) (.int .i64 (bareT x).n) (.int .i64 (bareT x).m) (.int .i64 (bareT x).pl) (.slice ax (bareT x).parts.length cx)) w.heap.size 12 (.int .i64 (bareT y).kind) (.string (bareT y).text) (.int .i64 (bareT y).n) (.int .i64 (bareT y).m) (.int .i64 (bareT y).pl) (.slice ay (bareT y).parts.length cy)) (bareT y) (.slice ay (bareT y).parts.length cy)) := set6_sits (by omega) (set6_sits (by omega) (SitsL.keep BS4.out (Nat.le_refl _) (fun _ _ _ _ => rfl) _ _ SY.out))
    have B7 : Hid (Below w.heap.size w (set6 (set6 w6 w.heap.size 6 (.int .i64 (bareT x).kind) (.string (bareT x).text) (.int .i64 (bareT x).n) (.int .i64 (bareT x).m) (.int .i64 (bareT x).pl) (.slice ax (bareT x).parts.length cx)) w.heap.size 12 (.int .i64 (bareT y).kind) (.string (bareT y).text) (.int .i64 (bareT y).n) (.int .i64 (bareT y).m) (.int .i64 (bareT y).pl) (.slice ay (bareT y).parts.length cy))) := set6_below (set6_below (below_on B4.out B6.out B4.out.size) (Nat.le_refl _) _ _ _ _ _ _ _) (Nat.le_refl _) _ _ _ _ _ _ _
    have BH7 : Hid ((set6 (set6 w6 w.heap.size 6 (.int .i64 (bareT x).kind) (.string (bareT x).text) (.int .i64 (bareT x).n) (.int .i64 (bareT x).m) (.int .i64 (bareT x).pl) (.slice ax (bareT x).parts.length cx)) w.heap.size 12 (.int .i64 (bareT y).kind) (.string (bareT y).text) (.int .i64 (bareT y).n) (.int .i64 (bareT y).m) (.int .i64 (bareT y).pl) (.slice ay (bareT y).parts.length cy)).heap[w.heap.size + 1]? = some (.cells zeroIt 32 (0, 0))) := by
      show _ = _
      rw [set6_block _ _ _ _ _ _ _ _ _ (by omega), set6_block _ _ _ _ _ _ _ _ _ (by omega), B6.out.block _ (by have := BS4.out; omega)]
      exact BH4.out
    clear c6 c7 c8 c9 c10 c11 c12 c13 c14 c15 c16 c17 e12 e13 e14 e15 e16 e17 k6 k7 k8 k9 k10 k11 k12 k13 k14 k15 k16 k17 g6 g7 g8 g9 g10 g11 g12 g13 g14 g15 g16 g17 KC KX KF HX4 HY4 BX4 B4 BH4 BS4 B5 B6 B56 SX SY
    show Exit.then _ _ Exit.normal _ (set6 (set6 w6 w.heap.size 6 (.int .i64 (bareT x).kind) (.string (bareT x).text) (.int .i64 (bareT x).n) (.int .i64 (bareT x).m) (.int .i64 (bareT x).pl) (.slice ax (bareT x).parts.length cx)) w.heap.size 12 (.int .i64 (bareT y).kind) (.string (bareT y).text) (.int .i64 (bareT y).n) (.int .i64 (bareT y).m) (.int .i64 (bareT y).pl) (.slice ay (bareT y).parts.length cy))
    generalize (set6 (set6 w6 w.heap.size 6 (.int .i64 (bareT x).kind) (.string (bareT x).text) (.int .i64 (bareT x).n) (.int .i64 (bareT x).m) (.int .i64 (bareT x).pl) (.slice ax (bareT x).parts.length cx)) w.heap.size 12 (.int .i64 (bareT y).kind) (.string (bareT y).text) (.int .i64 (bareT y).n) (.int .i64 (bareT y).m) (.int .i64 (bareT y).pl) (.slice ay (bareT y).parts.length cy)) = w7 at BX7 S7x S7y B7 BH7 ⊢
    obtain ⟨L, hL⟩ : ∃ L, Hid (L = itL k nm (bareT x) (.slice ax (bareT x).parts.length cx) (bareT y) (.slice ay (bareT y).parts.length cy) 0) := ⟨_, rfl⟩
    rw [← hL.out] at BX7
    have n1 : Hid (L.length = 19) := by rw [hL.out]; rfl
    have o1 : Hid (L.toArray.all (·.oneCell') = true) := by rw [hL.out]; show _ = _; kernel_rfl
    obtain ⟨X, hX⟩ : ∃ X, Hid (X = L.toArray) := ⟨_, rfl⟩
    rw [← hX.out] at o1
    have s1 : X.size = 19 := by rw [hX.out]; simpa using n1.out
    have hlt : w.heap.size + 1 < w7.heap.size := (Array.getElem?_eq_some_iff.1 BH7.out).1
    have hlx := BX7.out.lt
    have HV : Hid (Value.agg X = itV k nm (bareT x) (.slice ax (bareT x).parts.length cx) (bareT y) (.slice ay (bareT y).parts.length cy) 0) := by rw [hX.out, hL.out]; rfl
    obtain ⟨m, hm⟩ : ∃ m : Nat, Hid (m = 19) := ⟨_, rfl⟩
    have zs : ∀ w, (sizeOf 32).run Tryd.prog w = .ok m w := by rw [hm.out]; exact Tryd.sizeOf32
    have zm : (19 = m) = True := eq_true hm.out.symm
    have ldA := ld_box BX7.out hX.out (hm.out.trans n1.out.symm)
    have stA := st_row BH7.out s1.symm o1.out
    have ldB := ld_box (box_row (X := X) BH7.out) (Array.toArray_toList ..).symm (hm.out.trans (by simpa using s1.symm))
    go_wp2_with fail
    refine bodyPost_ret (v := .agg X) (by simp [results, Tryd.results58, go_sem, *]) rfl ?_
    rw [HV.out]
    exact ⟨_, _, rfl, sits_row (by omega) S7x.out, sits_row (by omega) S7y.out, below_setRow B7.out (Nat.le_succ _) _⟩
end Go.Proofs.YtdikeicnefgjcaaDoor

/- Package tree: Bare, copied. -/
import Derived.Test.YtdikeicnefgjcaaDoorTcB
namespace Go.Proofs.YtdikeicnefgjcaaDoor
open Go.RowKit

theorem PAtL.keep {lo lo' z : Nat} {w w' : World} {v : Value} {ps : List Tm} (hlo : lo' ≤ lo) (hs : w.heap.size ≤ w'.heap.size) (hk : ∀ b j, lo ≤ b → b < w.heap.size → w'.cell? ⟨b, j, none⟩ = w.cell? ⟨b, j, none⟩) (h : PAtL lo z w v ps) : PAtL lo' z w' v ps := by
  obtain ⟨ad, cap, hv, hl, hc, hp⟩ := h
  refine ⟨ad, cap, hv, hl, hc, ?_⟩
  rcases hp with hp | ⟨b, off, ha, hlt, hbl, hp⟩
  · exact .inl hp
  · refine .inr ⟨b, off, ha, by omega, by omega, fun i hi => ?_⟩
    obtain ⟨u, h6, hu⟩ := hp i hi
    exact ⟨u, h6.keep (fun j => hk b j hbl hlt), SitsL.keep hlo hs hk _ _ hu⟩
theorem tm_of {w : World} {g : Nat} {t : Tm} {v : Value} (h : Box w g (tmL t v)) : w.cell? ⟨g, 0, none⟩ = some (.int .i64 t.kind) ∧ w.cell? ⟨g, 1, none⟩ = some (.string t.text) ∧ w.cell? ⟨g, 2, none⟩ = some (.int .i64 t.n) ∧ w.cell? ⟨g, 3, none⟩ = some (.int .i64 t.m) ∧ w.cell? ⟨g, 4, none⟩ = some (.int .i64 t.pl) ∧ w.cell? ⟨g, 5, none⟩ = some v :=
  ⟨h.cell 0 _ rfl, h.cell 1 _ rfl, h.cell 2 _ rfl, h.cell 3 _ rfl, h.cell 4 _ rfl, h.cell 5 _ rfl⟩
theorem tm_free {w : World} {g : Nat} {t : Tm} {v : Value} (h : Box w g (tmL t v)) : w.frozen? ⟨g, 0, none⟩ = false ∧ w.frozen? ⟨g, 1, none⟩ = false ∧ w.frozen? ⟨g, 2, none⟩ = false ∧ w.frozen? ⟨g, 3, none⟩ = false ∧ w.frozen? ⟨g, 4, none⟩ = false ∧ w.frozen? ⟨g, 5, none⟩ = false :=
  ⟨h.free 0 (by simp), h.free 1 (by simp), h.free 2 (by simp), h.free 3 (by simp), h.free 4 (by simp), h.free 5 (by simp)⟩
def zeroT : Tm := ⟨0, ⟨#[]⟩, 0, 0, 0, []⟩
set_option maxRecDepth 20000 in
set_option maxHeartbeats 2000000 in
theorem bare_step {z : Nat} (hz : z ≤ 281474976710656) (t : Tm) (hl : t.parts.length ≤ 16384) (hns : ∀ x, x ∈ t.parts → nodes x ≤ 16384) (ih : ∀ x, x ∈ t.parts → BareAt z x) : ∀ (v : Value) (w : World), Sits z w t v → Calls Tryd.prog 29 #[tmV t v] w (NewT z (bareT t) w) := by
  intro v w hs
  rw [bareT_eq]
  have HE := hid2 (fun wx (h : Below w.heap.size w wx) => eachBare t.parts v wx (hs.parts.next h) hl hns ih)
  have HK := hid2 (fun wx => clone_c t.text (Nat.le_trans hs.fit.s hz) wx)
  have HF := hid2 hs.fit
  obtain ⟨ad, cap, rfl, -, -⟩ := hs.parts.shape
  obtain ⟨X0, X1, XB⟩ := two_boxes w 24 24 (tmL ⟨t.kind, t.text, t.n, t.m, 0, t.parts⟩ (.slice ad t.parts.length cap)) (tmL zeroT (.slice none 0 0))
  have BX := hid2 X0
  have BY := hid2 X1
  have BB := hid2 XB
  clear hs ih hns X0 X1 XB
  go_enter Tryd.func29, Tryd.ntmps29
  go_wp2_with fail
  refine Calls.mono (HK.out _) ?_
  rintro e w1 ⟨rfl, b1⟩
  have CX := hid2 (BX.out.next b1)
  have CY := hid2 (BY.out.next b1)
  have B1 := hid2 (below_on BB.out b1 BB.out.size)
  have hsz : w.heap.size + 2 ≤ w1.heap.size := by have := b1.size; simpa using this
  obtain ⟨a0, a1, a2, a3, a4, a5⟩ := tm_of CX.out
  obtain ⟨f0, f1, f2, f3, f4, f5⟩ := tm_free CX.out
  clear b1 BX BY BB HK
  go_wp2_with fail
  refine Calls.mono (HE.out _ (B1.out.setCell (Nat.le_refl _) _)) ?_
  rintro e w2 ⟨v2, rfl, hp2, b2⟩
  have DX := hid2 ((CX.out.set 1 (by simp) (.string t.text)).next b2)
  have DY := hid2 ((CY.out.other (by omega) (q := w.heap.size) (j := 1) (v := .string t.text)).next b2)
  have B2 := hid2 (below_on (B1.out.setCell (Nat.le_refl _) _) b2 (by simpa using B1.out.size))
  have P2 : Hid (PAtL (w.heap.size + 2) z w2 v2 (t.parts.map bareT)) := hp2.keep (by simpa using hsz) (Nat.le_refl _) (fun _ _ _ _ => rfl)
  obtain ⟨ad2, cap2, rfl⟩ := hp2.shape
  clear a0 a1 a2 a3 a4 a5 f0 f1 f2 f3 f4 f5 hp2 b2 CX CY HE B1
  obtain ⟨a0, a1, a2, a3, a4, a5⟩ := tm_of (t := ⟨t.kind, t.text, t.n, t.m, 0, t.parts⟩) DX.out
  obtain ⟨f0, f1, f2, f3, f4, f5⟩ := tm_free (t := ⟨t.kind, t.text, t.n, t.m, 0, t.parts⟩) DX.out
  obtain ⟨r0, r1, r2, r3, r4, r5⟩ := tm_of DY.out
  obtain ⟨g0, g1, g2, g3, g4, g5⟩ := tm_free DY.out
  have hne : Hid (w.heap.size ≠ w.heap.size + 1) := by show _ ≠ _; omega
  go_wp2_with fail
  refine bodyPost_ret (v := tmV (⟨t.kind, t.text, t.n, t.m, 0, t.parts.map bareT⟩ : Tm) (.slice ad2 (t.parts.map bareT).length cap2)) (by simp [results, Tryd.results29, go_sem, *]) rfl ⟨_, rfl, sitsL_iff.2 ⟨⟨HF.out.k, HF.out.n, HF.out.m, (⟨by decide, by decide⟩ : In64 0), HF.out.s⟩, ?_⟩, ?_⟩
  · refine P2.out.keep (by omega) (by simp) (fun b j hb _ => ?_)
    have hq : ∀ (wx : World) (g o : Nat) (u : Value), g ≠ b → (wx.setCell ⟨g, o, none⟩ u).cell? ⟨b, j, none⟩ = wx.cell? ⟨b, j, none⟩ := fun wx g o u h => World.cell?_setCell_far _ _ _ _ (by simpa using h)
    iterate 7 rw [hq _ _ _ _ (by omega)]
  · exact ((((((B2.out.setCell (Nat.le_refl _) _).setCell (Nat.le_succ _) _).setCell (Nat.le_succ _) _).setCell (Nat.le_succ _) _).setCell (Nat.le_succ _) _).setCell (Nat.le_succ _) _).setCell (Nat.le_succ _) _
set_option maxRecDepth 20000 in
set_option maxHeartbeats 2000000 in
theorem copy_step {z : Nat} (hz : z ≤ 281474976710656) (t : Tm) (hl : t.parts.length ≤ 16384) (hns : ∀ x, x ∈ t.parts → nodes x ≤ 16384) (ih : ∀ x, x ∈ t.parts → CopyAt z x) : ∀ (v : Value) (w : World), Sits z w t v → Calls Tryd.prog 56 #[tmV t v] w (NewT z (t) w) := by
  intro v w hs
  skip
  have HE := hid2 (fun wx (h : Below w.heap.size w wx) => eachCopy t.parts v wx (hs.parts.next h) hl hns ih)
  have HK := hid2 (fun wx => clone_c t.text (Nat.le_trans hs.fit.s hz) wx)
  have HF := hid2 hs.fit
  obtain ⟨ad, cap, rfl, -, -⟩ := hs.parts.shape
  obtain ⟨X0, X1, XB⟩ := two_boxes w 24 24 (tmL ⟨t.kind, t.text, t.n, t.m, t.pl, t.parts⟩ (.slice ad t.parts.length cap)) (tmL zeroT (.slice none 0 0))
  have BX := hid2 X0
  have BY := hid2 X1
  have BB := hid2 XB
  clear hs ih hns X0 X1 XB
  go_enter Tryd.func56, Tryd.ntmps56
  go_wp2_with fail
  refine Calls.mono (HK.out _) ?_
  rintro e w1 ⟨rfl, b1⟩
  have CX := hid2 (BX.out.next b1)
  have CY := hid2 (BY.out.next b1)
  have B1 := hid2 (below_on BB.out b1 BB.out.size)
  have hsz : w.heap.size + 2 ≤ w1.heap.size := by have := b1.size; simpa using this
  obtain ⟨a0, a1, a2, a3, a4, a5⟩ := tm_of CX.out
  obtain ⟨f0, f1, f2, f3, f4, f5⟩ := tm_free CX.out
  clear b1 BX BY BB HK
  go_wp2_with fail
  refine Calls.mono (HE.out _ (B1.out.setCell (Nat.le_refl _) _)) ?_
  rintro e w2 ⟨v2, rfl, hp2, b2⟩
  have DX := hid2 ((CX.out.set 1 (by simp) (.string t.text)).next b2)
  have DY := hid2 ((CY.out.other (by omega) (q := w.heap.size) (j := 1) (v := .string t.text)).next b2)
  have B2 := hid2 (below_on (B1.out.setCell (Nat.le_refl _) _) b2 (by simpa using B1.out.size))
  have P2 : Hid (PAtL (w.heap.size + 2) z w2 v2 (t.parts)) := hp2.keep (by simpa using hsz) (Nat.le_refl _) (fun _ _ _ _ => rfl)
  obtain ⟨ad2, cap2, rfl⟩ := hp2.shape
  clear a0 a1 a2 a3 a4 a5 f0 f1 f2 f3 f4 f5 hp2 b2 CX CY HE B1
  obtain ⟨a0, a1, a2, a3, a4, a5⟩ := tm_of (t := ⟨t.kind, t.text, t.n, t.m, t.pl, t.parts⟩) DX.out
  obtain ⟨f0, f1, f2, f3, f4, f5⟩ := tm_free (t := ⟨t.kind, t.text, t.n, t.m, t.pl, t.parts⟩) DX.out
  obtain ⟨r0, r1, r2, r3, r4, r5⟩ := tm_of DY.out
  obtain ⟨g0, g1, g2, g3, g4, g5⟩ := tm_free DY.out
  have hne : Hid (w.heap.size ≠ w.heap.size + 1) := by show _ ≠ _; omega
  go_wp2_with fail
  refine bodyPost_ret (v := tmV (t) (.slice ad2 (t.parts).length cap2)) (by simp [results, Tryd.results56, go_sem, *]) rfl ⟨_, rfl, sitsL_iff.2 ⟨HF.out, ?_⟩, ?_⟩
  · refine P2.out.keep (by omega) (by simp) (fun b j hb _ => ?_)
    have hq : ∀ (wx : World) (g o : Nat) (u : Value), g ≠ b → (wx.setCell ⟨g, o, none⟩ u).cell? ⟨b, j, none⟩ = wx.cell? ⟨b, j, none⟩ := fun wx g o u h => World.cell?_setCell_far _ _ _ _ (by simpa using h)
    iterate 7 rw [hq _ _ _ _ (by omega)]
  · exact ((((((B2.out.setCell (Nat.le_refl _) _).setCell (Nat.le_succ _) _).setCell (Nat.le_succ _) _).setCell (Nat.le_succ _) _).setCell (Nat.le_succ _) _).setCell (Nat.le_succ _) _).setCell (Nat.le_succ _) _
theorem bare_all {z : Nat} (hz : z ≤ 281474976710656) (t : Tm) : BareAt z t := by
  induction t using Tm.ind with
  | h t ih =>
    intro v w hs hn
    have h1 := length_nodesL t.parts
    have h2 := nodes_eq t
    exact bare_step hz t (by omega) (fun x hx => by have := nodes_part hx; omega) ih v w hs
theorem copy_all {z : Nat} (hz : z ≤ 281474976710656) (t : Tm) : CopyAt z t := by
  induction t using Tm.ind with
  | h t ih =>
    intro v w hs hn
    have h1 := length_nodesL t.parts
    have h2 := nodes_eq t
    exact copy_step hz t (by omega) (fun x hx => by have := nodes_part hx; omega) ih v w hs
end Go.Proofs.YtdikeicnefgjcaaDoor

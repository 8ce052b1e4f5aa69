/- TreeSame: two trees are told to be the same, or not, as the chapter says. -/
import Derived.Test.YtdikeicnefgjcaaDoorTsE
namespace Go.Proofs.YtdikeicnefgjcaaDoor
open Go.RowKit

theorem sameB_refl (t : Tm) : sameB t t = true := by
  induction t using Tm.ind with
  | h t ih =>
    rw [sameB_eq]
    have h1 : hdEq t t = true := by unfold hdEq; simp
    have h2 : sameL t.parts t.parts = true := by
      unfold sameL
      simp only [decide_true, Bool.true_and, List.all_eq_true, List.mem_range]
      intro i hi
      rw [samePt_at hi hi]
      exact ih _ (List.getElem_mem hi)
    rw [h1, h2]; rfl
theorem six_of {w : World} {g : Nat} {t : Tm} {v : Value} (h : Box w g (tmL t v)) : w.cell? ⟨g, 0, none⟩ = some (.int .i64 t.kind) ∧ w.cell? ⟨g, 1, none⟩ = some (.string t.text) ∧ w.cell? ⟨g, 2, none⟩ = some (.int .i64 t.n) ∧ w.cell? ⟨g, 3, none⟩ = some (.int .i64 t.m) ∧ w.cell? ⟨g, 4, none⟩ = some (.int .i64 t.pl) ∧ w.cell? ⟨g, 5, none⟩ = some v :=
  ⟨h.cell 0 _ rfl, h.cell 1 _ rfl, h.cell 2 _ rfl, h.cell 3 _ rfl, h.cell 4 _ rfl, h.cell 5 _ rfl⟩
def nilT : Tm := ⟨0, ⟨#[]⟩, 0, 0, 0, []⟩
theorem sits_nil {z : Nat} (w : World) : Sits z w nilT (.slice none 0 0) :=
  sits_iff.2 ⟨⟨(⟨by decide, by decide⟩ : In64 0), (⟨by decide, by decide⟩ : In64 0), (⟨by decide, by decide⟩ : In64 0), (⟨by decide, by decide⟩ : In64 0), Nat.zero_le _⟩, none, 0, rfl, Nat.le_refl _, by decide, .inl rfl⟩
theorem six_boxes (w : World) (t0 t1 t2 t3 t4 t5 : TypeId) (L0 L1 L2 L3 L4 L5 : List Value) :
    Box ((((((w.alloc (.cells L0.toArray t0)).alloc (.cells L1.toArray t1)).alloc (.cells L2.toArray t2)).alloc (.cells L3.toArray t3)).alloc (.cells L4.toArray t4)).alloc (.cells L5.toArray t5)) w.heap.size L0 ∧
    Box ((((((w.alloc (.cells L0.toArray t0)).alloc (.cells L1.toArray t1)).alloc (.cells L2.toArray t2)).alloc (.cells L3.toArray t3)).alloc (.cells L4.toArray t4)).alloc (.cells L5.toArray t5)) (w.heap.size + 1) L1 ∧
    Box ((((((w.alloc (.cells L0.toArray t0)).alloc (.cells L1.toArray t1)).alloc (.cells L2.toArray t2)).alloc (.cells L3.toArray t3)).alloc (.cells L4.toArray t4)).alloc (.cells L5.toArray t5)) (w.heap.size + 1 + 1) L2 ∧
    Box ((((((w.alloc (.cells L0.toArray t0)).alloc (.cells L1.toArray t1)).alloc (.cells L2.toArray t2)).alloc (.cells L3.toArray t3)).alloc (.cells L4.toArray t4)).alloc (.cells L5.toArray t5)) (w.heap.size + 1 + 1 + 1) L3 ∧
    Box ((((((w.alloc (.cells L0.toArray t0)).alloc (.cells L1.toArray t1)).alloc (.cells L2.toArray t2)).alloc (.cells L3.toArray t3)).alloc (.cells L4.toArray t4)).alloc (.cells L5.toArray t5)) (w.heap.size + 1 + 1 + 1 + 1) L4 ∧
    Box ((((((w.alloc (.cells L0.toArray t0)).alloc (.cells L1.toArray t1)).alloc (.cells L2.toArray t2)).alloc (.cells L3.toArray t3)).alloc (.cells L4.toArray t4)).alloc (.cells L5.toArray t5)) (w.heap.size + 1 + 1 + 1 + 1 + 1) L5 ∧
    Below w.heap.size w ((((((w.alloc (.cells L0.toArray t0)).alloc (.cells L1.toArray t1)).alloc (.cells L2.toArray t2)).alloc (.cells L3.toArray t3)).alloc (.cells L4.toArray t4)).alloc (.cells L5.toArray t5)) := by
  obtain ⟨a0, a1, ab⟩ := two_boxes w t0 t1 L0 L1
  have e1 : ((w.alloc (.cells L0.toArray t0)).alloc (.cells L1.toArray t1)).heap.size = w.heap.size + 1 + 1 := by simp
  generalize (w.alloc (.cells L0.toArray t0)).alloc (.cells L1.toArray t1) = w1 at *
  obtain ⟨b0, b1, bb⟩ := two_boxes w1 t2 t3 L2 L3
  have e2 : ((w1.alloc (.cells L2.toArray t2)).alloc (.cells L3.toArray t3)).heap.size = w1.heap.size + 1 + 1 := by simp
  generalize (w1.alloc (.cells L2.toArray t2)).alloc (.cells L3.toArray t3) = w2 at *
  obtain ⟨c0, c1, cb⟩ := two_boxes w2 t4 t5 L4 L5
  rw [← e1, ← e2]
  exact ⟨(a0.next bb).next cb, (a1.next bb).next cb, b0.next cb, b1.next cb, c0, c1, below_on (below_on ab bb ab.size) cb (Nat.le_trans ab.size bb.size)⟩
def tS (s : Tm) (v : Value) (t : Tm) (u : Value) (B h : Nat) (wx : World) : Prop :=
  Box wx B (tmL s v) ∧ Box wx (B + 1) (tmL t u) ∧ Box wx h (itL 5 ⟨#[120]⟩ s v nilT (.slice none 0 0) 7) ∧ Box wx (h + 1) [.string ⟨#[112]⟩, .slice (some ⟨h, 0, none⟩) 1 1] ∧
  Box wx (h + 1 + 1) (itL 5 ⟨#[120]⟩ t u nilT (.slice none 0 0) 0) ∧ Box wx (h + 1 + 1 + 1) [.string ⟨#[112]⟩, .slice (some ⟨h + 1 + 1, 0, none⟩) 1 1] ∧
  Box wx (h + 1 + 1 + 1 + 1) (itL 5 ⟨#[120]⟩ nilT (.slice none 0 0) s v 0) ∧ Box wx (h + 1 + 1 + 1 + 1 + 1) [.string ⟨#[112]⟩, .slice (some ⟨h + 1 + 1 + 1 + 1, 0, none⟩) 1 1]
theorem tS.next {s t : Tm} {v u : Value} {B h : Nat} {wx wy : World} (q : tS s v t u B h wx) (b : Below wx.heap.size wx wy) : tS s v t u B h wy :=
  ⟨q.1.next b, q.2.1.next b, q.2.2.1.next b, q.2.2.2.1.next b, q.2.2.2.2.1.next b, q.2.2.2.2.2.1.next b, q.2.2.2.2.2.2.1.next b, q.2.2.2.2.2.2.2.next b⟩
structure tJ (s : Tm) (v : Value) (t : Tm) (u : Value) (w : World) (h : Nat) (wx : World) : Prop where
  below : Below w.heap.size w wx
  lies : tS s v t u w.heap.size h wx
theorem tJ.next {s t : Tm} {v u : Value} {w : World} {h : Nat} {wx wy : World} (q : tJ s v t u w h wx) (b : Below wx.heap.size wx wy) : tJ s v t u w h wy := ⟨below_on q.1 b q.1.size, q.2.next b⟩
theorem tJ.drew {s t : Tm} {v u : Value} {w : World} {h : Nat} {wx : World} (q : tJ s v t u w h wx) (k : Nat) : tJ s v t u w h (wx.drewN k) := tJ.next q (below_drewN (Below.refl _ _) k)
theorem tS_cells {s t : Tm} {v u : Value} {B h : Nat} {w' : World} (q : tS s v t u B h w') : w'.cell? ⟨B, 0, none⟩ = some (.int .i64 s.kind) ∧ w'.cell? ⟨B, 1, none⟩ = some (.string s.text) ∧ w'.cell? ⟨B, 2, none⟩ = some (.int .i64 s.n) ∧ w'.cell? ⟨B, 3, none⟩ = some (.int .i64 s.m) ∧ w'.cell? ⟨B, 4, none⟩ = some (.int .i64 s.pl) ∧ w'.cell? ⟨B, 5, none⟩ = some v ∧ w'.cell? ⟨B + 1, 0, none⟩ = some (.int .i64 t.kind) ∧ w'.cell? ⟨B + 1, 1, none⟩ = some (.string t.text) ∧ w'.cell? ⟨B + 1, 2, none⟩ = some (.int .i64 t.n) ∧ w'.cell? ⟨B + 1, 3, none⟩ = some (.int .i64 t.m) ∧ w'.cell? ⟨B + 1, 4, none⟩ = some (.int .i64 t.pl) ∧ w'.cell? ⟨B + 1, 5, none⟩ = some u ∧ w'.cell? ⟨h + 1, 0, none⟩ = some (.string ⟨#[112]⟩) ∧ w'.cell? ⟨h + 1, 1, none⟩ = some (.slice (some ⟨h, 0, none⟩) 1 1) ∧ w'.cell? ⟨h + 1 + 1 + 1, 0, none⟩ = some (.string ⟨#[112]⟩) ∧ w'.cell? ⟨h + 1 + 1 + 1, 1, none⟩ = some (.slice (some ⟨h + 1 + 1, 0, none⟩) 1 1) ∧ w'.cell? ⟨h + 1 + 1 + 1 + 1 + 1, 0, none⟩ = some (.string ⟨#[112]⟩) ∧ w'.cell? ⟨h + 1 + 1 + 1 + 1 + 1, 1, none⟩ = some (.slice (some ⟨h + 1 + 1 + 1 + 1, 0, none⟩) 1 1) :=
  ⟨q.1.cell 0 _ rfl, q.1.cell 1 _ rfl, q.1.cell 2 _ rfl, q.1.cell 3 _ rfl, q.1.cell 4 _ rfl, q.1.cell 5 _ rfl, q.2.1.cell 0 _ rfl, q.2.1.cell 1 _ rfl, q.2.1.cell 2 _ rfl, q.2.1.cell 3 _ rfl, q.2.1.cell 4 _ rfl, q.2.1.cell 5 _ rfl, q.2.2.2.1.cell 0 _ rfl, q.2.2.2.1.cell 1 _ rfl, q.2.2.2.2.2.1.cell 0 _ rfl, q.2.2.2.2.2.1.cell 1 _ rfl, q.2.2.2.2.2.2.2.cell 0 _ rfl, q.2.2.2.2.2.2.2.cell 1 _ rfl⟩
set_option maxRecDepth 20000 in
set_option maxHeartbeats 8000000 in
theorem treeSame_walk {z : Nat} (s : Tm) (v : Value) (t : Tm) (u : Value) (w : World) (hs : Sits z w s v) (ht : Sits z w t u) (hT : TabsAt w) : Calls Tryd.prog 5 #[tmV s v, tmV t u] w fun e w' => e = .returned (.bool true) ∧ Below w.heap.size w w' := by
  obtain ⟨ad, cap, rfl, -, -⟩ := hs.parts.shape
  obtain ⟨ad', cap', rfl, -, -⟩ := ht.parts.shape
  have HS := hid2 hs
  have HU := hid2 ht
  have HA : Hid (∀ wx, Below w.heap.size w wx → Calls Tryd.prog 9 #[] wx fun e w' => e = .returned (.bool true) ∧ Below wx.heap.size wx w') := fun wx hi => awake_c wx (hT.next hi)
  have H1 : Hid (∀ wx, Below w.heap.size w wx → Calls Tryd.prog 10 #[tmV s (.slice ad s.parts.length cap)] wx fun e w' => e = .returned (.bool (decide (nodes s ≤ 16384))) ∧ Below wx.heap.size wx w') := fun wx hi => small_c s _ wx (hs.next hi)
  have H2 : Hid (∀ wx, Below w.heap.size w wx → Calls Tryd.prog 10 #[tmV t (.slice ad' t.parts.length cap')] wx fun e w' => e = .returned (.bool (decide (nodes t ≤ 16384))) ∧ Below wx.heap.size wx w') := fun wx hi => small_c t _ wx (ht.next hi)
  generalize decide (nodes s ≤ 16384) = b1 at *
  generalize decide (nodes t ≤ 16384) = b2 at *
  obtain ⟨X0, X1, XB⟩ := two_boxes w 24 24 (tmL s (.slice ad s.parts.length cap)) (tmL t (.slice ad' t.parts.length cap'))
  have BX := hid2 X0
  have BY := hid2 X1
  have BB := hid2 XB
  clear X0 X1 XB hs ht hT
  go_enter Tryd.func5, Tryd.ntmps5
  go_wp2_with fail
  refine Calls.mono (HA.out _ BB.out) ?_
  rintro e w1 ⟨rfl, q1⟩
  have B1 := hid2 (below_on BB.out q1 BB.out.size)
  have x1 := hid2 (BX.out.next q1)
  have y1 := hid2 (BY.out.next q1)
  clear q1 BX BY BB
  obtain ⟨s0, s1, s2, s3, s4, s5⟩ := six_of x1.out
  go_wp2_with fail
  refine Calls.mono (H1.out _ B1.out) ?_
  rintro e w2 ⟨rfl, q2⟩
  have B2 := hid2 (below_on B1.out q2 B1.out.size)
  have x2 := hid2 (x1.out.next q2)
  have y2 := hid2 (y1.out.next q2)
  clear q2 x1 y1 H1 s0 s1 s2 s3 s4 s5
  cases b1
  · go_wp2_with fail
    refine Calls.mono (HA.out _ B2.out) ?_
    rintro e w3 ⟨rfl, q3⟩
    have B3 := hid2 (below_on B2.out q3 B2.out.size)
    clear q3
    go_wp2_with fail
    go_ret
    exact ⟨rfl, B3.out⟩
  · obtain ⟨s0, s1, s2, s3, s4, s5⟩ := six_of y2.out
    go_wp2_with fail
    refine Calls.mono (H2.out _ B2.out) ?_
    rintro e w3 ⟨rfl, q3⟩
    have B3 := hid2 (below_on B2.out q3 B2.out.size)
    have x3 := hid2 (x2.out.next q3)
    have y3 := hid2 (y2.out.next q3)
    clear q3 x2 y2 s0 s1 s2 s3 s4 s5 H2 B2
    cases b2
    · go_wp2_with fail
      refine Calls.mono (HA.out _ B3.out) ?_
      rintro e w4 ⟨rfl, q4⟩
      have B4 := hid2 (below_on B3.out q4 B3.out.size)
      clear q4
      go_wp2_with fail
      go_ret
      exact ⟨rfl, B4.out⟩
    · obtain ⟨s0, s1, s2, s3, s4, s5⟩ := six_of x3.out
      obtain ⟨c0, c1, c2, c3, c4, c5⟩ := six_of y3.out
      have lx := x3.out.lt
      have ly := y3.out.lt
      have F4 : ∀ o1 o2 o3 o4, Below w3.heap.size w3 ((((w3.alloc o1).alloc o2).alloc o3).alloc o4) := fun o1 o2 o3 o4 => ((((Below.refl _ _).alloc (Nat.le_refl _) _).alloc (by simp) _).alloc (by simp; omega) _).alloc (by simp; omega) _
      have F6 : ∀ o1 o2 o3 o4 o5 o6, Below w3.heap.size w3 ((((((w3.alloc o1).alloc o2).alloc o3).alloc o4).alloc o5).alloc o6) := fun o1 o2 o3 o4 o5 o6 => ((F4 o1 o2 o3 o4).alloc (by simp; omega) _).alloc (by simp; omega) _
      have d0 := fun o1 o2 o3 o4 => ((F4 o1 o2 o3 o4).cell (p := ⟨w.heap.size, 0, none⟩) lx).trans s0
      have e0 := fun o1 o2 o3 o4 o5 o6 => ((F6 o1 o2 o3 o4 o5 o6).cell (p := ⟨w.heap.size, 0, none⟩) lx).trans s0
      have g0 := fun o1 o2 o3 o4 o5 o6 => ((F6 o1 o2 o3 o4 o5 o6).cell (p := ⟨w.heap.size + 1, 0, none⟩) ly).trans c0
      have d1 := fun o1 o2 o3 o4 => ((F4 o1 o2 o3 o4).cell (p := ⟨w.heap.size, 1, none⟩) lx).trans s1
      have e1 := fun o1 o2 o3 o4 o5 o6 => ((F6 o1 o2 o3 o4 o5 o6).cell (p := ⟨w.heap.size, 1, none⟩) lx).trans s1
      have g1 := fun o1 o2 o3 o4 o5 o6 => ((F6 o1 o2 o3 o4 o5 o6).cell (p := ⟨w.heap.size + 1, 1, none⟩) ly).trans c1
      have d2 := fun o1 o2 o3 o4 => ((F4 o1 o2 o3 o4).cell (p := ⟨w.heap.size, 2, none⟩) lx).trans s2
      have e2 := fun o1 o2 o3 o4 o5 o6 => ((F6 o1 o2 o3 o4 o5 o6).cell (p := ⟨w.heap.size, 2, none⟩) lx).trans s2
      have g2 := fun o1 o2 o3 o4 o5 o6 => ((F6 o1 o2 o3 o4 o5 o6).cell (p := ⟨w.heap.size + 1, 2, none⟩) ly).trans c2
      have d3 := fun o1 o2 o3 o4 => ((F4 o1 o2 o3 o4).cell (p := ⟨w.heap.size, 3, none⟩) lx).trans s3
      have e3 := fun o1 o2 o3 o4 o5 o6 => ((F6 o1 o2 o3 o4 o5 o6).cell (p := ⟨w.heap.size, 3, none⟩) lx).trans s3
      have g3 := fun o1 o2 o3 o4 o5 o6 => ((F6 o1 o2 o3 o4 o5 o6).cell (p := ⟨w.heap.size + 1, 3, none⟩) ly).trans c3
      have d4 := fun o1 o2 o3 o4 => ((F4 o1 o2 o3 o4).cell (p := ⟨w.heap.size, 4, none⟩) lx).trans s4
      have e4 := fun o1 o2 o3 o4 o5 o6 => ((F6 o1 o2 o3 o4 o5 o6).cell (p := ⟨w.heap.size, 4, none⟩) lx).trans s4
      have g4 := fun o1 o2 o3 o4 o5 o6 => ((F6 o1 o2 o3 o4 o5 o6).cell (p := ⟨w.heap.size + 1, 4, none⟩) ly).trans c4
      have d5 := fun o1 o2 o3 o4 => ((F4 o1 o2 o3 o4).cell (p := ⟨w.heap.size, 5, none⟩) lx).trans s5
      have e5 := fun o1 o2 o3 o4 o5 o6 => ((F6 o1 o2 o3 o4 o5 o6).cell (p := ⟨w.heap.size, 5, none⟩) lx).trans s5
      have g5 := fun o1 o2 o3 o4 o5 o6 => ((F6 o1 o2 o3 o4 o5 o6).cell (p := ⟨w.heap.size + 1, 5, none⟩) ly).trans c5
      clear F4 F6
      clear HA
      go_wp2_with fail
      obtain ⟨z0, z1, z2, z3, z4, z5, zb⟩ := six_boxes w3 32 30 32 30 32 30 (itL 5 ⟨#[120]⟩ s (.slice ad s.parts.length cap) nilT (.slice none 0 0) 7) [.string ⟨#[112]⟩, .slice (some ⟨w3.heap.size, 0, none⟩) 1 1] (itL 5 ⟨#[120]⟩ t (.slice ad' t.parts.length cap') nilT (.slice none 0 0) 0) [.string ⟨#[112]⟩, .slice (some ⟨w3.heap.size + 1 + 1, 0, none⟩) 1 1] (itL 5 ⟨#[120]⟩ nilT (.slice none 0 0) s (.slice ad s.parts.length cap) 0) [.string ⟨#[112]⟩, .slice (some ⟨w3.heap.size + 1 + 1 + 1 + 1, 0, none⟩) 1 1]
      have JB := below_on B3.out zb B3.out.size
      have JT : tS s (.slice ad s.parts.length cap) t (.slice ad' t.parts.length cap') w.heap.size w3.heap.size _ := ⟨x3.out.next zb, y3.out.next zb, z0, z1, z2, z3, z4, z5⟩
      refine Calls.mono (rSame_all s t _ _ _ (HS.out.next JB) (HU.out.next JB)) ?_
      rintro e w4 ⟨rfl, q4⟩
      have I4 : Hid (tJ s (.slice ad s.parts.length cap) t (.slice ad' t.parts.length cap') w w3.heap.size w4) := ⟨below_on JB q4 JB.size, JT.next q4⟩
      clear JB JT z0 z1 z2 z3 z4 z5 zb q4 s0 c0 d0 e0 g0 s1 c1 d1 e1 g1 s2 c2 d2 e2 g2 s3 c3 d3 e3 g3 s4 c4 d4 e4 g4 s5 c5 d5 e5 g5 lx ly x3 y3 B3 B1
      have hss : sameB s s = true := sameB_refl s
      have hnn : sameB nilT nilT = true := sameB_refl nilT
      generalize w3.heap.size = h at *
      have C1 : Hid (∀ wx, tJ s (.slice ad s.parts.length cap) t (.slice ad' t.parts.length cap') w h wx → Calls Tryd.prog 20 #[tmV s (.slice ad s.parts.length cap), tmV t (.slice ad' t.parts.length cap')] wx fun e w' => e = .returned (.bool (sameB s t)) ∧ Hid (tJ s (.slice ad s.parts.length cap) t (.slice ad' t.parts.length cap') w h w')) := fun wx hi => (by exact same_all s t _ _ wx (HS.out.next hi.1) (HU.out.next hi.1) : Calls Tryd.prog 20 #[tmV s (.slice ad s.parts.length cap), tmV t (.slice ad' t.parts.length cap')] wx fun e w' => e = .returned (.bool (sameB s t)) ∧ Below wx.heap.size wx w').mono fun e w' k => ⟨k.1, tJ.next hi k.2⟩
      have C2 : Hid (∀ wx, tJ s (.slice ad s.parts.length cap) t (.slice ad' t.parts.length cap') w h wx → Calls Tryd.prog 20 #[tmV s (.slice ad s.parts.length cap), tmV s (.slice ad s.parts.length cap)] wx fun e w' => e = .returned (.bool true) ∧ Hid (tJ s (.slice ad s.parts.length cap) t (.slice ad' t.parts.length cap') w h w')) := fun wx hi => (by rw [← hss]; exact same_all s s _ _ wx (HS.out.next hi.1) (HS.out.next hi.1) : Calls Tryd.prog 20 #[tmV s (.slice ad s.parts.length cap), tmV s (.slice ad s.parts.length cap)] wx fun e w' => e = .returned (.bool true) ∧ Below wx.heap.size wx w').mono fun e w' k => ⟨k.1, tJ.next hi k.2⟩
      have C3 : Hid (∀ wx, tJ s (.slice ad s.parts.length cap) t (.slice ad' t.parts.length cap') w h wx → Calls Tryd.prog 21 #[polV ⟨#[112]⟩ (.slice (some ⟨h, 0, none⟩) 1 1), polV ⟨#[112]⟩ (.slice (some ⟨h + 1 + 1, 0, none⟩) 1 1)] wx fun e w' => e = .returned (.bool (sameB s t)) ∧ Hid (tJ s (.slice ad s.parts.length cap) t (.slice ad' t.parts.length cap') w h w')) := fun wx hi => (by have e : (sameB s t && sameB nilT nilT) = sameB s t := (by rw [hnn]; simp); rw [← e]; exact samePol_c _ _ _ _ _ _ _ _ wx fun wy hy => equalItems 5 ⟨#[120]⟩ s _ nilT _ 7 t _ nilT _ 0 _ _ 1 1 wy (HS.out.next (below_on hi.1 hy hi.1.size)) (sits_nil wy) (HU.out.next (below_on hi.1 hy hi.1.size)) (sits_nil wy) (hi.2.2.2.1.next hy) (hi.2.2.2.2.2.1.next hy) : Calls Tryd.prog 21 #[polV ⟨#[112]⟩ (.slice (some ⟨h, 0, none⟩) 1 1), polV ⟨#[112]⟩ (.slice (some ⟨h + 1 + 1, 0, none⟩) 1 1)] wx fun e w' => e = .returned (.bool (sameB s t)) ∧ Below wx.heap.size wx w').mono fun e w' k => ⟨k.1, tJ.next hi k.2⟩
      have C4 : Hid (∀ wx, tJ s (.slice ad s.parts.length cap) t (.slice ad' t.parts.length cap') w h wx → Calls Tryd.prog 21 #[polV ⟨#[112]⟩ (.slice (some ⟨h, 0, none⟩) 1 1), polV ⟨#[112]⟩ (.slice (some ⟨h, 0, none⟩) 1 1)] wx fun e w' => e = .returned (.bool true) ∧ Hid (tJ s (.slice ad s.parts.length cap) t (.slice ad' t.parts.length cap') w h w')) := fun wx hi => (by have e : (sameB s s && sameB nilT nilT) = true := (by rw [hnn, hss]; rfl); rw [← e]; exact samePol_c _ _ _ _ _ _ _ _ wx fun wy hy => equalItems 5 ⟨#[120]⟩ s _ nilT _ 7 s _ nilT _ 7 _ _ 1 1 wy (HS.out.next (below_on hi.1 hy hi.1.size)) (sits_nil wy) (HS.out.next (below_on hi.1 hy hi.1.size)) (sits_nil wy) (hi.2.2.2.1.next hy) (hi.2.2.2.1.next hy) : Calls Tryd.prog 21 #[polV ⟨#[112]⟩ (.slice (some ⟨h, 0, none⟩) 1 1), polV ⟨#[112]⟩ (.slice (some ⟨h, 0, none⟩) 1 1)] wx fun e w' => e = .returned (.bool true) ∧ Below wx.heap.size wx w').mono fun e w' k => ⟨k.1, tJ.next hi k.2⟩
      have C5 : Hid (∀ wx, tJ s (.slice ad s.parts.length cap) t (.slice ad' t.parts.length cap') w h wx → Calls Tryd.prog 21 #[polV ⟨#[112]⟩ (.slice (some ⟨h, 0, none⟩) 1 1), polV ⟨#[112]⟩ (.slice (some ⟨h + 1 + 1 + 1 + 1, 0, none⟩) 1 1)] wx fun e w' => e = .returned (.bool (sameB s nilT && sameB nilT s)) ∧ Hid (tJ s (.slice ad s.parts.length cap) t (.slice ad' t.parts.length cap') w h w')) := fun wx hi => (by exact samePol_c _ _ _ _ _ _ _ _ wx fun wy hy => equalItems 5 ⟨#[120]⟩ s _ nilT _ 7 nilT _ s _ 0 _ _ 1 1 wy (HS.out.next (below_on hi.1 hy hi.1.size)) (sits_nil wy) (sits_nil wy) (HS.out.next (below_on hi.1 hy hi.1.size)) (hi.2.2.2.1.next hy) (hi.2.2.2.2.2.2.2.1.next hy) : Calls Tryd.prog 21 #[polV ⟨#[112]⟩ (.slice (some ⟨h, 0, none⟩) 1 1), polV ⟨#[112]⟩ (.slice (some ⟨h + 1 + 1 + 1 + 1, 0, none⟩) 1 1)] wx fun e w' => e = .returned (.bool (sameB s nilT && sameB nilT s)) ∧ Below wx.heap.size wx w').mono fun e w' k => ⟨k.1, tJ.next hi k.2⟩
      have C6 : Hid (∀ wx, tJ s (.slice ad s.parts.length cap) t (.slice ad' t.parts.length cap') w h wx → Calls Tryd.prog 22 #[polV ⟨#[112]⟩ (.slice (some ⟨h, 0, none⟩) 1 1), polV ⟨#[112]⟩ (.slice (some ⟨h + 1 + 1 + 1 + 1, 0, none⟩) 1 1)] wx fun e w' => e = .returned (.bool (sameB s nilT && sameB nilT s)) ∧ Hid (tJ s (.slice ad s.parts.length cap) t (.slice ad' t.parts.length cap') w h w')) := fun wx hi => (by exact rSamePol_c ⟨#[112]⟩ 5 ⟨#[120]⟩ s _ nilT _ 7 nilT _ s _ 0 _ _ 1 1 wx (HS.out.next hi.1) (sits_nil wx) (sits_nil wx) (HS.out.next hi.1) hi.2.2.2.1 hi.2.2.2.2.2.2.2.1 : Calls Tryd.prog 22 #[polV ⟨#[112]⟩ (.slice (some ⟨h, 0, none⟩) 1 1), polV ⟨#[112]⟩ (.slice (some ⟨h + 1 + 1 + 1 + 1, 0, none⟩) 1 1)] wx fun e w' => e = .returned (.bool (sameB s nilT && sameB nilT s)) ∧ Below wx.heap.size wx w').mono fun e w' k => ⟨k.1, tJ.next hi k.2⟩
      have C7 : Hid (∀ wx, tJ s (.slice ad s.parts.length cap) t (.slice ad' t.parts.length cap') w h wx → Calls Tryd.prog 21 #[polV ⟨#[112]⟩ (.slice (some ⟨h, 0, none⟩) 1 1), polV ⟨#[112]⟩ (.slice none 0 0)] wx fun e w' => e = .returned (.bool false) ∧ Hid (tJ s (.slice ad s.parts.length cap) t (.slice ad' t.parts.length cap') w h w')) := fun wx hi => (by exact samePol_c _ _ _ _ _ _ _ _ wx fun wy hy => equalItems_none _ 1 wy : Calls Tryd.prog 21 #[polV ⟨#[112]⟩ (.slice (some ⟨h, 0, none⟩) 1 1), polV ⟨#[112]⟩ (.slice none 0 0)] wx fun e w' => e = .returned (.bool false) ∧ Below wx.heap.size wx w').mono fun e w' k => ⟨k.1, tJ.next hi k.2⟩
      generalize (sameB s nilT && sameB nilT s) = q7 at *
      generalize sameB s t = r at *
      clear HS HU hss hnn
      unfold polV at C3 C4 C5 C6 C7
      unfold tmV at C1 C2
      obtain ⟨y0, y1, y2, y3, y4, y5, y6, y7, y8, y9, y10, y11, y12, y13, y14, y15, y16, y17⟩ := tS_cells I4.out.2
      cases r <;> cases q7
      all_goals
        go_wp2_with fail
        go_region_held3 (fun w' => w'.cell? ⟨w.heap.size, 0, none⟩ = some (.int .i64 s.kind) ∧ w'.cell? ⟨w.heap.size, 1, none⟩ = some (.string s.text) ∧ w'.cell? ⟨w.heap.size, 2, none⟩ = some (.int .i64 s.n) ∧ w'.cell? ⟨w.heap.size, 3, none⟩ = some (.int .i64 s.m) ∧ w'.cell? ⟨w.heap.size, 4, none⟩ = some (.int .i64 s.pl) ∧ w'.cell? ⟨w.heap.size, 5, none⟩ = some (.slice ad s.parts.length cap) ∧ w'.cell? ⟨w.heap.size + 1, 0, none⟩ = some (.int .i64 t.kind) ∧ w'.cell? ⟨w.heap.size + 1, 1, none⟩ = some (.string t.text) ∧ w'.cell? ⟨w.heap.size + 1, 2, none⟩ = some (.int .i64 t.n) ∧ w'.cell? ⟨w.heap.size + 1, 3, none⟩ = some (.int .i64 t.m) ∧ w'.cell? ⟨w.heap.size + 1, 4, none⟩ = some (.int .i64 t.pl) ∧ w'.cell? ⟨w.heap.size + 1, 5, none⟩ = some (.slice ad' t.parts.length cap') ∧ w'.cell? ⟨h + 1, 0, none⟩ = some (.string ⟨#[112]⟩) ∧ w'.cell? ⟨h + 1, 1, none⟩ = some (.slice (some ⟨h, 0, none⟩) 1 1) ∧ w'.cell? ⟨h + 1 + 1 + 1, 0, none⟩ = some (.string ⟨#[112]⟩) ∧ w'.cell? ⟨h + 1 + 1 + 1, 1, none⟩ = some (.slice (some ⟨h + 1 + 1, 0, none⟩) 1 1) ∧ w'.cell? ⟨h + 1 + 1 + 1 + 1 + 1, 0, none⟩ = some (.string ⟨#[112]⟩) ∧ w'.cell? ⟨h + 1 + 1 + 1 + 1 + 1, 1, none⟩ = some (.slice (some ⟨h + 1 + 1 + 1 + 1, 0, none⟩) 1 1)) (simp [go_sem, *]) (first | (go_at_call 20; (with_reducible refine Calls.mono (C1.out _ ?_) ?_); (first | exact tJ.drew I4.out _ | exact tJ.drew IC1.out _ | exact tJ.drew IC2.out _ | exact tJ.drew IC3.out _ | exact tJ.drew IC4.out _ | exact tJ.drew IC5.out _ | exact tJ.drew IC6.out _ | exact tJ.drew IC7.out _ | exact I4.out | exact IC1.out | exact IC2.out | exact IC3.out | exact IC4.out | exact IC5.out | exact IC6.out | exact IC7.out); rintro e wC1 ⟨rfl, IC1⟩; obtain ⟨y0, y1, y2, y3, y4, y5, y6, y7, y8, y9, y10, y11, y12, y13, y14, y15, y16, y17⟩ := tS_cells IC1.out.2) | (go_at_call 20; (with_reducible refine Calls.mono (C2.out _ ?_) ?_); (first | exact tJ.drew I4.out _ | exact tJ.drew IC1.out _ | exact tJ.drew IC2.out _ | exact tJ.drew IC3.out _ | exact tJ.drew IC4.out _ | exact tJ.drew IC5.out _ | exact tJ.drew IC6.out _ | exact tJ.drew IC7.out _ | exact I4.out | exact IC1.out | exact IC2.out | exact IC3.out | exact IC4.out | exact IC5.out | exact IC6.out | exact IC7.out); rintro e wC2 ⟨rfl, IC2⟩; obtain ⟨y0, y1, y2, y3, y4, y5, y6, y7, y8, y9, y10, y11, y12, y13, y14, y15, y16, y17⟩ := tS_cells IC2.out.2) | (go_at_call 21; (with_reducible refine Calls.mono (C3.out _ ?_) ?_); (first | exact tJ.drew I4.out _ | exact tJ.drew IC1.out _ | exact tJ.drew IC2.out _ | exact tJ.drew IC3.out _ | exact tJ.drew IC4.out _ | exact tJ.drew IC5.out _ | exact tJ.drew IC6.out _ | exact tJ.drew IC7.out _ | exact I4.out | exact IC1.out | exact IC2.out | exact IC3.out | exact IC4.out | exact IC5.out | exact IC6.out | exact IC7.out); rintro e wC3 ⟨rfl, IC3⟩; obtain ⟨y0, y1, y2, y3, y4, y5, y6, y7, y8, y9, y10, y11, y12, y13, y14, y15, y16, y17⟩ := tS_cells IC3.out.2) | (go_at_call 21; (with_reducible refine Calls.mono (C4.out _ ?_) ?_); (first | exact tJ.drew I4.out _ | exact tJ.drew IC1.out _ | exact tJ.drew IC2.out _ | exact tJ.drew IC3.out _ | exact tJ.drew IC4.out _ | exact tJ.drew IC5.out _ | exact tJ.drew IC6.out _ | exact tJ.drew IC7.out _ | exact I4.out | exact IC1.out | exact IC2.out | exact IC3.out | exact IC4.out | exact IC5.out | exact IC6.out | exact IC7.out); rintro e wC4 ⟨rfl, IC4⟩; obtain ⟨y0, y1, y2, y3, y4, y5, y6, y7, y8, y9, y10, y11, y12, y13, y14, y15, y16, y17⟩ := tS_cells IC4.out.2) | (go_at_call 21; (with_reducible refine Calls.mono (C5.out _ ?_) ?_); (first | exact tJ.drew I4.out _ | exact tJ.drew IC1.out _ | exact tJ.drew IC2.out _ | exact tJ.drew IC3.out _ | exact tJ.drew IC4.out _ | exact tJ.drew IC5.out _ | exact tJ.drew IC6.out _ | exact tJ.drew IC7.out _ | exact I4.out | exact IC1.out | exact IC2.out | exact IC3.out | exact IC4.out | exact IC5.out | exact IC6.out | exact IC7.out); rintro e wC5 ⟨rfl, IC5⟩; obtain ⟨y0, y1, y2, y3, y4, y5, y6, y7, y8, y9, y10, y11, y12, y13, y14, y15, y16, y17⟩ := tS_cells IC5.out.2) | (go_at_call 22; (with_reducible refine Calls.mono (C6.out _ ?_) ?_); (first | exact tJ.drew I4.out _ | exact tJ.drew IC1.out _ | exact tJ.drew IC2.out _ | exact tJ.drew IC3.out _ | exact tJ.drew IC4.out _ | exact tJ.drew IC5.out _ | exact tJ.drew IC6.out _ | exact tJ.drew IC7.out _ | exact I4.out | exact IC1.out | exact IC2.out | exact IC3.out | exact IC4.out | exact IC5.out | exact IC6.out | exact IC7.out); rintro e wC6 ⟨rfl, IC6⟩; obtain ⟨y0, y1, y2, y3, y4, y5, y6, y7, y8, y9, y10, y11, y12, y13, y14, y15, y16, y17⟩ := tS_cells IC6.out.2) | (go_at_call 21; (with_reducible refine Calls.mono (C7.out _ ?_) ?_); (first | exact tJ.drew I4.out _ | exact tJ.drew IC1.out _ | exact tJ.drew IC2.out _ | exact tJ.drew IC3.out _ | exact tJ.drew IC4.out _ | exact tJ.drew IC5.out _ | exact tJ.drew IC6.out _ | exact tJ.drew IC7.out _ | exact I4.out | exact IC1.out | exact IC2.out | exact IC3.out | exact IC4.out | exact IC5.out | exact IC6.out | exact IC7.out); rintro e wC7 ⟨rfl, IC7⟩; obtain ⟨y0, y1, y2, y3, y4, y5, y6, y7, y8, y9, y10, y11, y12, y13, y14, y15, y16, y17⟩ := tS_cells IC7.out.2))
        go_wp2_with fail
        go_ret
        exact ⟨by first | rfl | simp | kernel_rfl, by first | exact IC7.out.1 | exact (tJ.drew IC7.out _).1⟩
end Go.Proofs.YtdikeicnefgjcaaDoor

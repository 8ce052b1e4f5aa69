/- TreeBare: without its places a tree, or policy, is the same, and every place is 0. -/
import Derived.Test.YtdikeicnefgjcaaDoorTcD
import Derived.Test.YtdikeicnefgjcaaDoorTcF
import Derived.Test.YtdikeicnefgjcaaDoorTsE
namespace Go.Proofs.YtdikeicnefgjcaaDoor
open Go.RowKit

theorem sameB_bare' (t : Tm) : sameB t (bareT t) = true := by
  induction t using Tm.ind with
  | h t ih =>
    rw [sameB_eq, bareT_eq]
    have h1 : hdEq t ⟨t.kind, t.text, t.n, t.m, 0, t.parts.map bareT⟩ = true := by unfold hdEq; simp
    have h2 : sameL t.parts (t.parts.map bareT) = true := by
      unfold sameL
      simp only [List.length_map, decide_true, Bool.true_and, List.all_eq_true, List.mem_range]
      intro i hi
      rw [samePt_at hi (by simpa using hi)]
      simpa using ih _ (List.getElem_mem hi)
    rw [h1]; exact h2
/-- Where all that the law asks about lies. -/
structure bJ (z : Nat) (t : Tm) (v : Value) (nm : ByteArray) (w : World) (h q g : Nat) (ux uy : Value) (wx : World) : Prop where
  below : Below w.heap.size w wx
  bt : Box wx w.heap.size (tmL t v)
  bi : Box wx h (itL 6 ⟨#[]⟩ t v t v 9)
  bp : Box wx (h + 1) [.string nm, .slice (some ⟨h, 0, none⟩) 1 1]
  bq : Box wx q [.string nm, .slice (some ⟨g, 0, none⟩) 1 1]
  bj : Box wx g (itL 6 ⟨#[]⟩ (bareT t) ux (bareT t) uy 0)
  sx : Sits z wx (bareT t) ux
  sy : Sits z wx (bareT t) uy
theorem bJ.next {z : Nat} {t : Tm} {v : Value} {nm : ByteArray} {w : World} {h q g : Nat} {ux uy : Value} {wx wy : World} (j : bJ z t v nm w h q g ux uy wx) (b : Below wx.heap.size wx wy) : bJ z t v nm w h q g ux uy wy :=
  ⟨below_on j.below b j.below.size, j.bt.next b, j.bi.next b, j.bp.next b, j.bq.next b, j.bj.next b, j.sx.next b, j.sy.next b⟩
theorem bJ.drew {z : Nat} {t : Tm} {v : Value} {nm : ByteArray} {w : World} {h q g : Nat} {ux uy : Value} {wx : World} (j : bJ z t v nm w h q g ux uy wx) (k : Nat) : bJ z t v nm w h q g ux uy (wx.drewN k) := j.next (below_drewN (Below.refl _ _) k)
set_option maxRecDepth 20000 in
set_option maxHeartbeats 8000000 in
theorem treeBare_walkz {z : Nat} (hz : z ≤ 281474976710656) (t : Tm) (v : Value) (nm : ByteArray) (w : World) (hs : Sits z w t v) (hnm : nm.size ≤ 140737488355328) (hT : TabsAt w) : Calls Tryd.prog 8 #[tmV t v, .string nm] w fun e w' => e = .returned (.bool true) ∧ Below w.heap.size w w' := by
  obtain ⟨ad, cap, rfl, -, -⟩ := hs.parts.shape
  have HS := hid2 hs
  have HN := hid2 hnm
  have HZ := hid2 hz
  have HA : Hid (∀ wx, Below w.heap.size w wx → Calls Tryd.prog 9 #[] wx fun e w' => e = .returned (.bool true) ∧ Below wx.heap.size wx w') := fun wx hi => awake_c wx (hT.next hi)
  have H1 : Hid (∀ wx, Below w.heap.size w wx → Calls Tryd.prog 10 #[tmV t (.slice ad t.parts.length cap)] wx fun e w' => e = .returned (.bool (decide (nodes t ≤ 16384))) ∧ Below wx.heap.size wx w') := fun wx hi => small_c t _ wx (hs.next hi)
  obtain ⟨X0, XB⟩ := one_box w 24 (tmL t (.slice ad t.parts.length cap))
  have BX := hid2 X0
  have BB := hid2 XB
  clear X0 XB hs hT hnm hz
  obtain ⟨b1, hb1⟩ : ∃ b1 : Bool, Hid (b1 = decide (nodes t ≤ 16384)) := ⟨_, rfl⟩
  rw [← hb1.out] at H1
  go_enter Tryd.func8, Tryd.ntmps8
  go_wp2_with fail
  refine Calls.mono (HA.out _ BB.out) ?_
  rintro e w1 ⟨rfl, q1⟩
  have B1 := hid2 (below_on BB.out q1 BB.out.size)
  have x1 := hid2 (BX.out.next q1)
  clear q1 BX BB
  obtain ⟨s0, s1, s2, s3, s4, s5⟩ := tm_of x1.out
  go_wp2_with fail
  refine Calls.mono (H1.out _ B1.out) ?_
  rintro e w2 ⟨rfl, q2⟩
  have B2 := hid2 (below_on B1.out q2 B1.out.size)
  have x2 := hid2 (x1.out.next q2)
  clear q2 x1 H1 s0 s1 s2 s3 s4 s5
  cases b1
  · go_wp2_with fail
    refine Calls.mono (HA.out _ B2.out) ?_
    rintro e w3 ⟨rfl, q3⟩
    have B3 := hid2 (below_on B2.out q3 B2.out.size)
    clear q3
    go_wp2_with fail
    go_ret
    exact ⟨rfl, B3.out⟩
  · have hnd := hid2 (of_decide_eq_true (p := nodes t ≤ 16384) hb1.out.symm)
    have HB := hid2 (bare_all HZ.out t _ w2 (HS.out.next B2.out) hnd.out)
    obtain ⟨s0, s1, s2, s3, s4, s5⟩ := tm_of x2.out
    clear hb1 HA
    go_wp2_with fail
    refine Calls.mono HB.out ?_
    rintro e w3 ⟨u, rfl, sl3, q3⟩
    have S3 := hid2 sl3.sits
    obtain ⟨au, cu, rfl⟩ := (sitsL_iff.1 sl3).2.shape
    have B3 := hid2 (below_on B2.out q3 B2.out.size)
    have x3 := hid2 (x2.out.next q3)
    obtain ⟨Y0, YB⟩ := one_box w3 24 (tmL (bareT t) (.slice au (bareT t).parts.length cu))
    have lx3 := x3.out.lt
    have y3 := hid2 Y0
    have B3' := hid2 (below_on B3.out YB B3.out.size)
    have x3' := hid2 (x3.out.next YB)
    have S3' := hid2 (S3.out.next YB)
    clear q3 sl3 HB s0 s1 s2 s3 s4 s5 Y0 YB x2 B2 B1 S3 B3
    obtain ⟨s0, s1, s2, s3, s4, s5⟩ := tm_of x3.out
    have hC4 := hid2 (rBared_all t _ _ _ S3'.out (HS.out.next B3'.out))
    go_wp2_with fail
    refine Calls.mono hC4.out ?_
    rintro e w4 ⟨rfl, q4⟩
    have x4 := hid2 (x3'.out.next q4)
    have y4 := hid2 (y3.out.next q4)
    have B4 := hid2 (below_on B3'.out q4 B3'.out.size)
    have S4 := hid2 (S3'.out.next q4)
    clear q4 s0 s1 s2 s3 s4 s5 x3 x3' y3 B3' S3' hC4 lx3
    obtain ⟨s0, s1, s2, s3, s4, s5⟩ := tm_of x4.out
    obtain ⟨a0, a1, a2, a3, a4, a5⟩ := tm_of y4.out
    have hC5 : Hid (Calls Tryd.prog 20 #[tmV (bareT t) (.slice au (bareT t).parts.length cu), tmV t (.slice ad t.parts.length cap)] w4 fun e w' => e = .returned (.bool true) ∧ Below w4.heap.size w4 w') := by
      have := same_all (bareT t) t _ _ w4 S4.out (HS.out.next B4.out)
      rw [sameB_bare] at this
      exact this
    go_wp2_with fail
    refine Calls.mono hC5.out ?_
    rintro e w5 ⟨rfl, q5⟩
    have x5 := hid2 (x4.out.next q5)
    have B5 := hid2 (below_on B4.out q5 B4.out.size)
    clear q5 s0 s1 s2 s3 s4 s5 a0 a1 a2 a3 a4 a5 x4 y4 B4 S4 hC5
    obtain ⟨s0, s1, s2, s3, s4, s5⟩ := tm_of x5.out
    obtain ⟨I0, P0, IB⟩ := two_boxes w5 32 30 (itL 6 ⟨#[]⟩ t (.slice ad t.parts.length cap) t (.slice ad t.parts.length cap) 9) [.string nm, .slice (some ⟨w5.heap.size, 0, none⟩) 1 1]
    have hC6 := hid2 (barePol_c HZ.out nm (Nat.le_trans HN.out (by decide)) 6 ⟨#[]⟩ (by decide) t _ t _ 9 w5.heap.size 1 _ (HS.out.next (below_on B5.out IB B5.out.size)) (HS.out.next (below_on B5.out IB B5.out.size)) hnd.out hnd.out I0)
    have i6 := hid2 I0
    have p6 := hid2 P0
    have x6 := hid2 (x5.out.next IB)
    have B6 := hid2 (below_on B5.out IB B5.out.size)
    clear I0 P0 IB
    unfold polV at hC6
    go_wp2_with fail
    refine Calls.mono hC6.out ?_
    rintro e w6 ⟨g, ux, uy, -, rfl, bj6, sx6, sy6, q6⟩
    obtain ⟨ax, cx, rfl, -, -⟩ := sx6.parts.shape
    obtain ⟨ay, cy, rfl, -, -⟩ := sy6.parts.shape
    obtain ⟨Q0, QB⟩ := one_box w6 30 [.string nm, .slice (some ⟨g, 0, none⟩) 1 1]
    have B7 := below_on B6.out q6 B6.out.size
    have I7 : Hid (bJ z t (.slice ad t.parts.length cap) nm w w5.heap.size w6.heap.size g (.slice ax (bareT t).parts.length cx) (.slice ay (bareT t).parts.length cy) _) := ⟨below_on B7 QB B7.size, (x6.out.next q6).next QB, (i6.out.next q6).next QB, (p6.out.next q6).next QB, Q0, bj6.next QB, sx6.next QB, sy6.next QB⟩
    clear Q0 QB B7 q6 sx6 sy6 bj6 x6 i6 p6 B6 hC6 x5 B5 s0 s1 s2 s3 s4 s5
    have C1 : Hid (∀ wx, bJ z t (.slice ad t.parts.length cap) nm w w5.heap.size w6.heap.size g (.slice ax (bareT t).parts.length cx) (.slice ay (bareT t).parts.length cy) wx → Calls Tryd.prog 30 #[tmV (bareT t) (.slice ax (bareT t).parts.length cx), tmV t (.slice ad t.parts.length cap)] wx fun e w' => e = .returned (.bool true) ∧ Hid (bJ z t (.slice ad t.parts.length cap) nm w w5.heap.size w6.heap.size g (.slice ax (bareT t).parts.length cx) (.slice ay (bareT t).parts.length cy) w')) := fun wx hi => (by exact rBared_all t _ _ wx hi.sx (HS.out.next hi.below) : Calls Tryd.prog 30 #[tmV (bareT t) (.slice ax (bareT t).parts.length cx), tmV t (.slice ad t.parts.length cap)] wx fun e w' => e = .returned (.bool true) ∧ Below wx.heap.size wx w').mono fun e w' k => ⟨k.1, hi.next k.2⟩
    have C2 : Hid (∀ wx, bJ z t (.slice ad t.parts.length cap) nm w w5.heap.size w6.heap.size g (.slice ax (bareT t).parts.length cx) (.slice ay (bareT t).parts.length cy) wx → Calls Tryd.prog 30 #[tmV (bareT t) (.slice ay (bareT t).parts.length cy), tmV t (.slice ad t.parts.length cap)] wx fun e w' => e = .returned (.bool true) ∧ Hid (bJ z t (.slice ad t.parts.length cap) nm w w5.heap.size w6.heap.size g (.slice ax (bareT t).parts.length cx) (.slice ay (bareT t).parts.length cy) w')) := fun wx hi => (by exact rBared_all t _ _ wx hi.sy (HS.out.next hi.below) : Calls Tryd.prog 30 #[tmV (bareT t) (.slice ay (bareT t).parts.length cy), tmV t (.slice ad t.parts.length cap)] wx fun e w' => e = .returned (.bool true) ∧ Below wx.heap.size wx w').mono fun e w' k => ⟨k.1, hi.next k.2⟩
    have C3 : Hid (∀ wx, bJ z t (.slice ad t.parts.length cap) nm w w5.heap.size w6.heap.size g (.slice ax (bareT t).parts.length cx) (.slice ay (bareT t).parts.length cy) wx → Calls Tryd.prog 21 #[polV nm (.slice (some ⟨w5.heap.size, 0, none⟩) 1 1), polV nm (.slice (some ⟨g, 0, none⟩) 1 1)] wx fun e w' => e = .returned (.bool true) ∧ Hid (bJ z t (.slice ad t.parts.length cap) nm w w5.heap.size w6.heap.size g (.slice ax (bareT t).parts.length cx) (.slice ay (bareT t).parts.length cy) w')) := fun wx hi => (by have e : (sameB t (bareT t) && sameB t (bareT t)) = true := (by rw [sameB_bare']; rfl); rw [← e]; exact samePol_c _ _ _ _ _ _ _ _ wx fun wy hy => equalItems 6 ⟨#[]⟩ t _ t _ 9 (bareT t) _ (bareT t) _ 0 _ _ 1 1 wy (HS.out.next (below_on hi.below hy hi.below.size)) (HS.out.next (below_on hi.below hy hi.below.size)) (hi.sx.next hy) (hi.sy.next hy) (hi.bi.next hy) (hi.bj.next hy) : Calls Tryd.prog 21 #[polV nm (.slice (some ⟨w5.heap.size, 0, none⟩) 1 1), polV nm (.slice (some ⟨g, 0, none⟩) 1 1)] wx fun e w' => e = .returned (.bool true) ∧ Below wx.heap.size wx w').mono fun e w' k => ⟨k.1, hi.next k.2⟩
    unfold polV at C3
    unfold tmV at C1 C2
    go_wp2_with fail
    generalize w6.alloc _ = w7 at I7 ⊢
    clear HS hnd HN HZ
    obtain ⟨k0, k1, k2, k3, k4, k5⟩ := tm_of I7.out.bt
    obtain ⟨x6, x7, x8, x9, x10, x11⟩ := it_x I7.out.bj
    obtain ⟨y12, y13, y14, y15, y16, y17⟩ := it_y I7.out.bj
    have z18 := (it_hd I7.out.bj).2.2.2.2.2.2
    have q0 := I7.out.bq.cell 0 _ rfl
    have q1 := I7.out.bq.cell 1 _ rfl
    have p0 := I7.out.bp.cell 0 _ rfl
    have p1 := I7.out.bp.cell 1 _ rfl
    go_region_held3 (fun w' => w'.cell? ⟨w.heap.size, 0, none⟩ = some (.int .i64 t.kind) ∧ w'.cell? ⟨w.heap.size, 1, none⟩ = some (.string t.text) ∧ w'.cell? ⟨w.heap.size, 2, none⟩ = some (.int .i64 t.n) ∧ w'.cell? ⟨w.heap.size, 3, none⟩ = some (.int .i64 t.m) ∧ w'.cell? ⟨w.heap.size, 4, none⟩ = some (.int .i64 t.pl) ∧ w'.cell? ⟨w.heap.size, 5, none⟩ = some (.slice ad t.parts.length cap) ∧ w'.cell? ⟨g, 6, none⟩ = some (.int .i64 (bareT t).kind) ∧ w'.cell? ⟨g, 7, none⟩ = some (.string (bareT t).text) ∧ w'.cell? ⟨g, 8, none⟩ = some (.int .i64 (bareT t).n) ∧ w'.cell? ⟨g, 9, none⟩ = some (.int .i64 (bareT t).m) ∧ w'.cell? ⟨g, 10, none⟩ = some (.int .i64 (bareT t).pl) ∧ w'.cell? ⟨g, 11, none⟩ = some (.slice ax (bareT t).parts.length cx) ∧ w'.cell? ⟨g, 12, none⟩ = some (.int .i64 (bareT t).kind) ∧ w'.cell? ⟨g, 13, none⟩ = some (.string (bareT t).text) ∧ w'.cell? ⟨g, 14, none⟩ = some (.int .i64 (bareT t).n) ∧ w'.cell? ⟨g, 15, none⟩ = some (.int .i64 (bareT t).m) ∧ w'.cell? ⟨g, 16, none⟩ = some (.int .i64 (bareT t).pl) ∧ w'.cell? ⟨g, 17, none⟩ = some (.slice ay (bareT t).parts.length cy) ∧ w'.cell? ⟨g, 18, none⟩ = some (.int .i64 0) ∧ w'.cell? ⟨w6.heap.size, 0, none⟩ = some (.string nm) ∧ w'.cell? ⟨w6.heap.size, 1, none⟩ = some (.slice (some ⟨g, 0, none⟩) 1 1) ∧ w'.cell? ⟨w5.heap.size + 1, 0, none⟩ = some (.string nm) ∧ w'.cell? ⟨w5.heap.size + 1, 1, none⟩ = some (.slice (some ⟨w5.heap.size, 0, none⟩) 1 1)) (simp [go_sem, *]) (first | (go_at_call 30; (with_reducible refine Calls.mono (C1.out _ ?_) ?_); (first | exact bJ.drew I7.out _ | exact bJ.drew IC1.out _ | exact bJ.drew IC2.out _ | exact I7.out | exact IC1.out | exact IC2.out); rintro e wC1 ⟨rfl, IC1⟩; obtain ⟨k0, k1, k2, k3, k4, k5⟩ := tm_of IC1.out.bt; obtain ⟨x6, x7, x8, x9, x10, x11⟩ := it_x IC1.out.bj; obtain ⟨y12, y13, y14, y15, y16, y17⟩ := it_y IC1.out.bj; have z18 := (it_hd IC1.out.bj).2.2.2.2.2.2; have q0 := IC1.out.bq.cell 0 _ rfl; have q1 := IC1.out.bq.cell 1 _ rfl; have p0 := IC1.out.bp.cell 0 _ rfl; have p1 := IC1.out.bp.cell 1 _ rfl) | (go_at_call 30; (with_reducible refine Calls.mono (C2.out _ ?_) ?_); (first | exact bJ.drew I7.out _ | exact bJ.drew IC1.out _ | exact bJ.drew IC2.out _ | exact I7.out | exact IC1.out | exact IC2.out); rintro e wC2 ⟨rfl, IC2⟩; obtain ⟨k0, k1, k2, k3, k4, k5⟩ := tm_of IC2.out.bt; obtain ⟨x6, x7, x8, x9, x10, x11⟩ := it_x IC2.out.bj; obtain ⟨y12, y13, y14, y15, y16, y17⟩ := it_y IC2.out.bj; have z18 := (it_hd IC2.out.bj).2.2.2.2.2.2; have q0 := IC2.out.bq.cell 0 _ rfl; have q1 := IC2.out.bq.cell 1 _ rfl; have p0 := IC2.out.bp.cell 0 _ rfl; have p1 := IC2.out.bp.cell 1 _ rfl) | (go_at_call 21; (with_reducible refine Calls.mono (C3.out _ ?_) ?_); (first | exact bJ.drew I7.out _ | exact bJ.drew IC1.out _ | exact bJ.drew IC2.out _ | exact I7.out | exact IC1.out | exact IC2.out); rintro e wC3 ⟨rfl, IC3⟩; obtain ⟨k0, k1, k2, k3, k4, k5⟩ := tm_of IC3.out.bt; obtain ⟨x6, x7, x8, x9, x10, x11⟩ := it_x IC3.out.bj; obtain ⟨y12, y13, y14, y15, y16, y17⟩ := it_y IC3.out.bj; have z18 := (it_hd IC3.out.bj).2.2.2.2.2.2; have q0 := IC3.out.bq.cell 0 _ rfl; have q1 := IC3.out.bq.cell 1 _ rfl; have p0 := IC3.out.bp.cell 0 _ rfl; have p1 := IC3.out.bp.cell 1 _ rfl))
    go_wp2_with fail
    go_ret
    exact ⟨by first | rfl | simp, by first | exact IC3.out.below | exact (bJ.drew IC3.out _).below⟩
theorem treeBare_walk (t : Tm) (v : Value) (nm : ByteArray) (w : World) (hs : Sits 140737488351232 w t v) (hnm : nm.size ≤ 140737488355328) (hT : TabsAt w) : Calls Tryd.prog 8 #[tmV t v, .string nm] w fun e w' => e = .returned (.bool true) ∧ Below w.heap.size w w' :=
  treeBare_walkz (by decide) t v nm w hs hnm hT
end Go.Proofs.YtdikeicnefgjcaaDoor

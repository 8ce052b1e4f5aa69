/- Package core: copyGuard. -/
import Derived.Test.YtpkknifbocfeaaaGreatDoorMgK
namespace Go.Proofs.YtpkknifbocfeaaaGreatDoor
open Go.RowKit

theorem step_copy {ops : Array Oper} {o : Oper} {a : Act} {w : World} {K : Act → World → Prop} {Q : Exit → Act → World → Prop} {E : Prop} (hgd : o.guard = none) {t : Co} (C : CopC t) (v : Value) (hs : CSits w t v)
    (he : (execOp a.eval o).run Tryz.prog w = .ok (.enter 36 #[coV t v]) w)
    (hK : ∀ ad c w', CSits w' t (.slice ad t.parts.length c) → CNew w' t w.heap.size w'.heap.size (.slice ad t.parts.length c) → Below w.heap.size w w' → K (a.put o.dst (coV t (.slice ad t.parts.length c))) w') :
    if Region.wanted o (yielded ops a.tmps) = true then Oper.wp Tryz.prog o a w K Q else E := by
  have hwd : Region.wanted o (yielded ops a.tmps) = true := by simp [Region.wanted, hgd]
  rw [if_pos hwd]
  unfold Oper.wp
  rw [he, Oper.upon_enter]
  refine (C v w hs).mono fun e w' h => ?_
  obtain ⟨u, rfl, h1, h2, h3⟩ := h
  obtain ⟨ad, c, rfl, -, -⟩ := h1.parts.shape
  exact hK ad c w' h1 h2 h3
set_option maxHeartbeats 4000000 in
set_option maxRecDepth 20000 in
theorem copyGuard_c (x y : Co) (hx : CWt x) (hy : CWt y) (v u : Value) (w : World) (sx : CSits w x v) (sy : CSits w y u) :
    Calls Tryz.prog 35 #[.agg #[.int .i64 x.op, .int .i64 x.n, .int .i64 x.m, v, .int .i64 y.op, .int .i64 y.n, .int .i64 y.m, u]] w fun e w' => ∃ v' u' m, e = .returned (.agg #[.int .i64 x.op, .int .i64 x.n, .int .i64 x.m, v', .int .i64 y.op, .int .i64 y.n, .int .i64 y.m, u']) ∧ CSits w' x v' ∧ CSits w' y u' ∧ CNew w' x w.heap.size m v' ∧ CNew w' y m w'.heap.size u' ∧ Below w.heap.size w w' := by
  have HX := chid (copyCore_c x hx)
  have HY := chid (copyCore_c y hy)
  have SX := chid sx
  have SY := chid sy
  obtain ⟨a1, c1, rfl, -, -⟩ := sx.parts.shape
  obtain ⟨a2, c2, rfl, -, -⟩ := sy.parts.shape
  obtain ⟨Y0, Y1, Y2⟩ : Box ((w.alloc (.cells #[.int .i64 x.op, .int .i64 x.n, .int .i64 x.m, .slice a1 x.parts.length c1, .int .i64 y.op, .int .i64 y.n, .int .i64 y.m, .slice a2 y.parts.length c2] 40)).alloc (.cells #[.int .i64 0, .int .i64 0, .int .i64 0, .slice none 0 0, .int .i64 0, .int .i64 0, .int .i64 0, .slice none 0 0] 40)) w.heap.size [.int .i64 x.op, .int .i64 x.n, .int .i64 x.m, .slice a1 x.parts.length c1, .int .i64 y.op, .int .i64 y.n, .int .i64 y.m, .slice a2 y.parts.length c2] ∧ Box ((w.alloc (.cells #[.int .i64 x.op, .int .i64 x.n, .int .i64 x.m, .slice a1 x.parts.length c1, .int .i64 y.op, .int .i64 y.n, .int .i64 y.m, .slice a2 y.parts.length c2] 40)).alloc (.cells #[.int .i64 0, .int .i64 0, .int .i64 0, .slice none 0 0, .int .i64 0, .int .i64 0, .int .i64 0, .slice none 0 0] 40)) (w.heap.size + 1) [.int .i64 0, .int .i64 0, .int .i64 0, .slice none 0 0, .int .i64 0, .int .i64 0, .int .i64 0, .slice none 0 0] ∧ Below w.heap.size w ((w.alloc (.cells #[.int .i64 x.op, .int .i64 x.n, .int .i64 x.m, .slice a1 x.parts.length c1, .int .i64 y.op, .int .i64 y.n, .int .i64 y.m, .slice a2 y.parts.length c2] 40)).alloc (.cells #[.int .i64 0, .int .i64 0, .int .i64 0, .slice none 0 0, .int .i64 0, .int .i64 0, .int .i64 0, .slice none 0 0] 40)) := two_boxes w 40 40 [.int .i64 x.op, .int .i64 x.n, .int .i64 x.m, .slice a1 x.parts.length c1, .int .i64 y.op, .int .i64 y.n, .int .i64 y.m, .slice a2 y.parts.length c2] [.int .i64 0, .int .i64 0, .int .i64 0, .slice none 0 0, .int .i64 0, .int .i64 0, .int .i64 0, .slice none 0 0]
  have x0 := Y0.cell 0 _ rfl
  have x1 := Y0.cell 1 _ rfl
  have x2 := Y0.cell 2 _ rfl
  have x3 := Y0.cell 3 _ rfl
  have x4 := Y0.cell 4 _ rfl
  have x5 := Y0.cell 5 _ rfl
  have x6 := Y0.cell 6 _ rfl
  have x7 := Y0.cell 7 _ rfl
  have xl := Y0.lt
  have HY0 := chid Y0
  have HY1 := chid Y1
  have B0 := chid Y2
  clear sx sy Y0 Y1 Y2
  go_enter Tryz.func35, Tryz.ntmps35
  go_wp2_with fail
  have hsz0 : Hid (w.heap.size + 1 + 1 ≤ ((w.alloc (.cells #[.int .i64 x.op, .int .i64 x.n, .int .i64 x.m, .slice a1 x.parts.length c1, .int .i64 y.op, .int .i64 y.n, .int .i64 y.m, .slice a2 y.parts.length c2] 40)).alloc (.cells #[.int .i64 0, .int .i64 0, .int .i64 0, .slice none 0 0, .int .i64 0, .int .i64 0, .int .i64 0, .slice none 0 0] 40)).heap.size) := chid (by simp)
  generalize hw0 : (w.alloc (.cells #[.int .i64 x.op, .int .i64 x.n, .int .i64 x.m, .slice a1 x.parts.length c1, .int .i64 y.op, .int .i64 y.n, .int .i64 y.m, .slice a2 y.parts.length c2] 40)).alloc (.cells #[.int .i64 0, .int .i64 0, .int .i64 0, .slice none 0 0, .int .i64 0, .int .i64 0, .int .i64 0, .slice none 0 0] 40) = w0 at *
  clear hw0
  go_region_law (first
    | (refine step_copy rfl HY.out (.slice a2 y.parts.length c2) (SY.out.next B60.out) (by first | rfl | go_simp) ?_; intro a61 c61 w61 s61 n61 b61; have B61 := chid (cbelow_on B60.out b61 B60.out.size); have Z61 := chid (HY1.out.next (cbelow_on K60.out b61 K60.out.size)); have z0 := Z61.out.cell 0 _ rfl; have z1 := Z61.out.cell 1 _ rfl; have z2 := Z61.out.cell 2 _ rfl; have z3 := Z61.out.cell 3 _ rfl; have z4 := Z61.out.cell 4 _ rfl; have z5 := Z61.out.cell 5 _ rfl; have z6 := Z61.out.cell 6 _ rfl; have z7 := Z61.out.cell 7 _ rfl; have f0 := Z61.out.free 0 (by simp); have f1 := Z61.out.free 1 (by simp); have f2 := Z61.out.free 2 (by simp); have f3 := Z61.out.free 3 (by simp); have f4 := Z61.out.free 4 (by simp); have f5 := Z61.out.free 5 (by simp); have f6 := Z61.out.free 6 (by simp); have f7 := Z61.out.free 7 (by simp); have l61 := Z61.out.lt; have N61 := chid n61; have b61' := chid b61; clear b61 n61 s61)
    | (refine step_copy rfl HX.out (.slice a1 x.parts.length c1) (SX.out.next (cbelow_on B0.out (Below.refl _ _).drew B0.out.size)) (by first | rfl | go_simp) ?_; intro a60 c60 w60 s60 n60 b60; have K60 := chid (cbelow_on (Below.refl w0.heap.size w0).drew b60 (Below.refl w0.heap.size w0).drew.size); have B60 := chid (cbelow_on B0.out K60.out B0.out.size); have Y60 := chid (HY0.out.next K60.out); have d4 := Y60.out.cell 4 _ rfl; have d5 := Y60.out.cell 5 _ rfl; have d6 := Y60.out.cell 6 _ rfl; have d7 := Y60.out.cell 7 _ rfl; have l60 := Y60.out.lt; have N60 := chid n60; clear b60 n60 s60))
  all_goals go_wp2_with fail
  all_goals (
    refine bodyPost_ret (v := .agg #[.int .i64 x.op, .int .i64 x.n, .int .i64 x.m, .slice a60 x.parts.length c60, .int .i64 y.op, .int .i64 y.n, .int .i64 y.m, .slice a61 y.parts.length c61]) (by simp [results, Tryz.results35, go_sem, *]) rfl ?_
    have T : Turn [w.heap.size + 1] w61 ((((((((w61.setCell ⟨w.heap.size + 1, 0, none⟩ (.int .i64 x.op)).setCell ⟨w.heap.size + 1, 1, none⟩ (.int .i64 x.n)).setCell ⟨w.heap.size + 1, 2, none⟩ (.int .i64 x.m)).setCell ⟨w.heap.size + 1, 3, none⟩ (.slice a60 x.parts.length c60)).setCell ⟨w.heap.size + 1, 4, none⟩ (.int .i64 y.op)).setCell ⟨w.heap.size + 1, 5, none⟩ (.int .i64 y.n)).setCell ⟨w.heap.size + 1, 6, none⟩ (.int .i64 y.m)).setCell ⟨w.heap.size + 1, 7, none⟩ (.slice a61 y.parts.length c61)) := turn_tr (turn_tr (turn_tr (turn_tr (turn_tr (turn_tr (turn_tr (Turn.set w61 _ _ (by simp)) (Turn.set _ _ _ (by simp))) (Turn.set _ _ _ (by simp))) (Turn.set _ _ _ (by simp))) (Turn.set _ _ _ (by simp))) (Turn.set _ _ _ (by simp))) (Turn.set _ _ _ (by simp))) (Turn.set _ _ _ (by simp))
    have hz := hsz0.out
    have hz2 : w0.heap.size ≤ w60.heap.size := K60.out.size
    have hz3 := b61'.out.size
    have N1 : CNew w60 x w0.heap.size w60.heap.size (.slice a60 x.parts.length c60) := N60.out
    have N2 := CNew.keep b61'.out.size x _ _ _ (fun b hb1 hb2 => b61'.out.block b hb2) N1
    have N3 := CNew.keep T.size x _ _ _ (fun b hb1 hb2 => T.block b (by omega) (by simp; omega)) N2
    have N4 := CNew.keep T.size y _ _ _ (fun b hb1 hb2 => T.block b hb2 (by simp; omega)) N61.out
    exact ⟨_, _, w60.heap.size, rfl, csits_of_new x _ _ _ _ SX.out N3, csits_of_new y _ _ _ _ SY.out N4, N3.wide (by omega) (Nat.le_refl _), N4.wide (Nat.le_refl _) T.size, (((((((B61.out.setCell (by simp) _).setCell (by simp) _).setCell (by simp) _).setCell (by simp) _).setCell (by simp) _).setCell (by simp) _).setCell (by simp) _).setCell (by simp) _⟩)
end Go.Proofs.YtpkknifbocfeaaaGreatDoor

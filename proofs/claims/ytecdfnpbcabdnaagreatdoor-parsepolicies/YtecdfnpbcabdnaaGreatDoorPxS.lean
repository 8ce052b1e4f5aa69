/- Package parse: items. -/
import Derived.Test.YtecdfnpbcabdnaaGreatDoorPxR
import Derived.Test.YtecdfnpbcabdnaaGreatDoorPxT
namespace Go.Proofs.YtecdfnpbcabdnaaGreatDoor
open Go.RowKit Go.Lib

set_option maxHeartbeats 4000000 in
set_option maxRecDepth 20000 in
theorem metric_c {z rb tb lb : Nat} {c : Int} {L : List Tk} {o : Nat} (_hz : z ≤ 9223372036854775807) {t0 : Tk} (hx : nxt c L = .ok t0) (hm : isT k_metric t0 = true) (w : World) (hr : Rea z w rb tb lb c L o) :
    Calls Tryz.prog 48 #[.pointer (some ⟨rb, 0, none⟩)] w (Out (VIt w.heap.size z) z w rb tb lb c o (metricP c t0.at_ L.tail)) := by
  obtain ⟨pr, hpr⟩ : ∃ pr, Hid (pr = metricP c t0.at_ L.tail) := ⟨_, rfl⟩
  rw [← hpr.out]
  have hE : Hid (∀ f w', pr = .error f → Turn [rb] w w' → Out (VIt w.heap.size z) z w rb tb lb c o pr (.panicked [fltE f]) w') := fun f w' h ht => Out.mk_err h ht
  have hO : Hid (∀ i L' w' v vx vy, pr = .ok (i, L') → Turn [rb] w w' → v = itA i vx vy → ItB w.heap.size z w' i vx vy → Rea z w' rb tb lb c L' o → Out (VIt w.heap.size z) z w rb tb lb c o pr (.returned v) w') := fun i L' w' v vx vy h ht hv hs hr' => Out.mk_ok h ht ⟨vx, vy, hv, hs⟩ hr'
  generalize Out (VIt w.heap.size z) z w rb tb lb c o pr = Post at *
  have hL := hr.lts
  have hne : w.heap.size ∉ [rb] := by simp; omega
  have fl1 := fld1
  have fl2 := fld2
  have hok := hr.tl.ok
  rw [← nxt_inv hx] at hok
  have hm1 := mustS_of hx hm
  obtain ⟨m, hm19⟩ : ∃ m : Nat, Hid (m = 19) := ⟨_, rfl⟩
  have zs : ∀ w, (sizeOf 53).run Tryz.prog w = .ok m w := by rw [hm19.out]; exact Tryz.sizeOf53
  have zm : (19 = m) = True := eq_true hm19.out.symm
  have Z0 := Box.new w zs19 53
  go_enter Tryz.func48, Tryz.ntmps48
  go_wp2_with fail
  have T0 := tnO (ob := .cells (zs19).toArray 53) (Turn.refl [rb] w)
  have r0 := hr.onO (ob := .cells (zs19).toArray 53)
  have Rs0 := Z0
  have zsz : w.heap.size < (w.alloc (.cells (zs19).toArray 53)).heap.size := by simp
  have hz0 : (w.alloc (.cells (zs19).toArray 53)).heap.size = w.heap.size + 1 := by simp
  clear Z0
  generalize hW0 : w.alloc _ = w0 at *
  clear hW0
  clear hz0
  clear hr
  obtain ⟨X, hX⟩ : ∃ X : Array Value, Hid (X = (itC (it0 1 (t0.at_ : Int)) (.slice none 0 0) (.slice none 0 0)).toArray) := ⟨_, rfl⟩
  have stX := fun W => st_it W (X := X) (by rw [hX.out]; rfl) (by rw [hX.out]; kernel_rfl)
  unfold zeroI at stX
  have sX : X.size = 19 := by rw [hX.out]; rfl
  refine Calls.mono (must_c k_metric _ r0) ?_
  rintro e w1 h1
  obtain ⟨t1, _, rfl, rfl, r1⟩ := Out.of_ok hm1 h1
  have Rs1 := Rs0.turn t1 hne
  have T1 := tn T0 t1
  have s1 := t1.size
  clear Rs0 T0 r0 h1 t1
  go_wp2_with (refine wpList_it rfl _ _ rfl 1 (t0.at_ : Int) rfl rfl X hX.out ?_)
  have t2 := tnO (ob := .cells X 53) (Turn.refl [rb] w1)
  have r2 := r1.onO (ob := .cells X 53)
  have Lt2 : Box (w1.alloc (.cells X 53)) w1.heap.size (itC (it0 1 (t0.at_ : Int)) (.slice none 0 0) (.slice none 0 0)) := by rw [hX.out]; exact Box.new w1 _ _
  have hnLt : w1.heap.size ∉ [rb] := by simp; omega
  have hxLt : w1.heap.size < (w1.alloc (.cells X 53)).heap.size := by simp
  have Rs2 := Rs1.turn t2 hne
  have T2 := tn T1 t2
  have s2 := t2.size
  clear Rs1 T1 r1 t2 stX sX
  obtain ⟨g, hgg⟩ : ∃ g : Nat, Hid (g = w1.heap.size) := ⟨_, rfl⟩
  have hg1 : w.heap.size < g := by rw [hgg.out]; omega
  have hg2 : g < (w1.alloc (.cells X 53)).heap.size := by rw [hgg.out]; simp
  rw [← hgg.out] at Lt2 hnLt hxLt ⊢
  generalize hW2 : w1.alloc _ = w2 at *
  clear hW2 hX
  rw [metricP] at hpr
  have htl1 := r2.tl
  refine Calls.mono (take_c2 1 (by decide) _ r2) ?_
  rintro e w3 h3
  rcases hy1 : takeK c 1 L.tail with f | q
  · obtain ⟨rfl, t3⟩ := Out.of_err hy1 h3
    go_wp2_with fail
    exact ⟨rfl, hE.out _ _ (by rw [hpr.out, hy1]; rfl) (tn T2 t3)⟩
  obtain ⟨t3, _, rfl, rfl, r3⟩ := Out.of_ok hy1 h3
  have Rs3 := Rs2.turn t3 hne
  have Lt3 := Lt2.turn t3 hnLt
  have T3 := tn T2 t3
  have s3 := t3.size
  clear Rs2 Lt2 T2 r2 h3 t3
  have hpr1 : Hid (pr = bnd (unitP c q.2) fun u => .ok (itm 1 q.1.text u.1 0 0 0 nilM nilM t0.at_, u.2)) := by show _ = _; rw [hpr.out, hy1]; rfl
  simp only [tkW]
  have x0 := Lt3.cell 1 _ rfl
  have xf0 := Lt3.free 1 (by simp)
  have xl := Lt3.lt
  go_wp2_with fail
  clear x0 xf0
  have t4 := turn_set w3 g 1 (.string q.1.text)
  have r4 := r3.turn1 t4 (by omega)
  have T4 := T3.andSet ⟨g, 1, none⟩ (.string q.1.text) (.inr (by show w.heap.size ≤ g; omega))
  have s4 := t4.size
  have Lt4 : Box (w3.setCell ⟨g, 1, none⟩ (.string q.1.text)) g (itC ⟨1, q.1.text, ⟨#[]⟩, 0, 0, 0, nilM, nilM, (t0.at_ : Int)⟩ (.slice none 0 0) (.slice none 0 0)) := Lt3.set 1 (by simp) (.string q.1.text)
  have Rs4 := Rs3.other (q := g) (j := 1) (v := .string q.1.text) (by omega)
  clear Rs3 Lt3 T3 r3 t4 xl
  generalize hW4 : w3.setCell _ _ = w4 at *
  clear hW4
  have htl2 := r4.tl
  refine Calls.mono (unit_c _ r4) ?_
  rintro e w5 h5
  rcases hy2 : unitP c q.2 with f | u
  · obtain ⟨rfl, t5⟩ := Out.of_err hy2 h5
    go_wp2_with fail
    exact ⟨rfl, hE.out _ _ (by rw [hpr1.out, hy2]; rfl) (tn T4 t5)⟩
  obtain ⟨t5, _, rfl, rfl, r5⟩ := Out.of_ok hy2 h5
  have Rs5 := Rs4.turn t5 hne
  have Lt5 := Lt4.turn t5 hnLt
  have T5 := tn T4 t5
  have s5 := t5.size
  clear Rs4 Lt4 T4 r4 h5 t5
  have hpr2 : Hid (pr = .ok (itm 1 q.1.text u.1 0 0 0 nilM nilM t0.at_, u.2)) := by show _ = _; rw [hpr1.out, hy2]; rfl
  have x0 := Lt5.cell 2 _ rfl
  have xf0 := Lt5.free 2 (by simp)
  have xl := Lt5.lt
  go_wp2_with fail
  clear x0 xf0
  have t6 := turn_set w5 g 2 (.string u.1)
  have r6 := r5.turn1 t6 (by omega)
  have T6 := T5.andSet ⟨g, 2, none⟩ (.string u.1) (.inr (by show w.heap.size ≤ g; omega))
  have s6 := t6.size
  have Lt6 : Box (w5.setCell ⟨g, 2, none⟩ (.string u.1)) g (itC ⟨1, q.1.text, u.1, 0, 0, 0, nilM, nilM, (t0.at_ : Int)⟩ (.slice none 0 0) (.slice none 0 0)) := Lt5.set 2 (by simp) (.string u.1)
  have Rs6 := Rs5.other (q := g) (j := 2) (v := .string u.1) (by omega)
  clear Rs5 Lt5 T5 r5 t6 xl
  generalize hW6 : w5.setCell _ _ = w6 at *
  clear hW6
  obtain ⟨Y, hY⟩ : ∃ Y : Array Value, Hid (Y = (itC ⟨1, q.1.text, u.1, 0, 0, 0, nilM, nilM, (t0.at_ : Int)⟩ (.slice none 0 0) (.slice none 0 0)).toArray) := ⟨_, rfl⟩
  have sY : Y.size = 19 := by rw [hY.out]; rfl
  have ldY := ld_row (X := Y) Lt6 (by rw [hY.out]) (n := m) hm19.out
  have one0 : Y.all (·.oneCell') = true := by rw [hY.out]; kernel_rfl
  have one : ∀ v ∈ Y.toList, v.oneCell' = true := fun v hv => Array.all_eq_true_iff_forall_mem.1 one0 v (by simpa using hv)
  have stY := st_at w.heap.size Y.toList 0 w6 _ Rs6 (by simp [sY]) one
  have TF := hid2 (putRow_turn w.heap.size Y.toList 0 w6)
  have BF := putRow_whole Rs6 (X := Y.toList) (by simp [sY])
  have ldF := ld_row (X := Y) BF rfl (n := m) (by simp [sY, hm19.out])
  have xl := Lt6.lt
  have pl := Rs6.lt
  have HT := hid2 T6
  have HR := hid2 r6
  clear Lt6 Rs6 T6 r6 BF one one0
  generalize hWF : putRow w6 w.heap.size 0 Y.toList = WF at *
  clear hWF
  go_wp2_with fail
  rw [ldY]
  simp only [Result.andThen_ok]
  go_wp2_with fail
  refine bodyPost_ret (v := .agg Y) (by simp [results, Tryz.results48, go_sem, *]) rfl (hO.out ⟨1, q.1.text, u.1, 0, 0, 0, nilM, nilM, (t0.at_ : Int)⟩ (u.2) _ _ (.slice none 0 0) (.slice none 0 0) (hpr2.out) ?_ (by rw [hY.out]) ⟨nil_sits z _, nil_sits z _, (takeK_tl htl1 hy1 (by decide)).1.x, unit_size htl2 hy2⟩ ?_)
  · exact HT.out.trans TF.out (fun i hi => .inr (by simp at hi; omega))
  · exact HR.out.turn1 TF.out hL
set_option maxHeartbeats 4000000 in
set_option maxRecDepth 20000 in
theorem reps_c {z rb tb lb : Nat} {c : Int} {L : List Tk} {o : Nat} (_hz : z ≤ 9223372036854775807) {t0 : Tk} (hx : nxt c L = .ok t0) (hm : isT k_reps t0 = true) (w : World) (hr : Rea z w rb tb lb c L o) :
    Calls Tryz.prog 49 #[.pointer (some ⟨rb, 0, none⟩)] w (Out (VIt w.heap.size z) z w rb tb lb c o (repsP c t0.at_ L.tail)) := by
  obtain ⟨pr, hpr⟩ : ∃ pr, Hid (pr = repsP c t0.at_ L.tail) := ⟨_, rfl⟩
  rw [← hpr.out]
  have hE : Hid (∀ f w', pr = .error f → Turn [rb] w w' → Out (VIt w.heap.size z) z w rb tb lb c o pr (.panicked [fltE f]) w') := fun f w' h ht => Out.mk_err h ht
  have hO : Hid (∀ i L' w' v vx vy, pr = .ok (i, L') → Turn [rb] w w' → v = itA i vx vy → ItB w.heap.size z w' i vx vy → Rea z w' rb tb lb c L' o → Out (VIt w.heap.size z) z w rb tb lb c o pr (.returned v) w') := fun i L' w' v vx vy h ht hv hs hr' => Out.mk_ok h ht ⟨vx, vy, hv, hs⟩ hr'
  generalize Out (VIt w.heap.size z) z w rb tb lb c o pr = Post at *
  have hL := hr.lts
  have hne : w.heap.size ∉ [rb] := by simp; omega
  have fl1 := fld1
  have fl2 := fld2
  have hok := hr.tl.ok
  rw [← nxt_inv hx] at hok
  have hm1 := mustS_of hx hm
  obtain ⟨m, hm19⟩ : ∃ m : Nat, Hid (m = 19) := ⟨_, rfl⟩
  have zs : ∀ w, (sizeOf 53).run Tryz.prog w = .ok m w := by rw [hm19.out]; exact Tryz.sizeOf53
  have zm : (19 = m) = True := eq_true hm19.out.symm
  have Z0 := Box.new w zs19 53
  go_enter Tryz.func49, Tryz.ntmps49
  go_wp2_with fail
  have T0 := tnO (ob := .cells (zs19).toArray 53) (Turn.refl [rb] w)
  have r0 := hr.onO (ob := .cells (zs19).toArray 53)
  have Rs0 := Z0
  have zsz : w.heap.size < (w.alloc (.cells (zs19).toArray 53)).heap.size := by simp
  have hz0 : (w.alloc (.cells (zs19).toArray 53)).heap.size = w.heap.size + 1 := by simp
  clear Z0
  generalize hW0 : w.alloc _ = w0 at *
  clear hW0
  clear hz0
  clear hr
  obtain ⟨X, hX⟩ : ∃ X : Array Value, Hid (X = (itC (it0 2 (t0.at_ : Int)) (.slice none 0 0) (.slice none 0 0)).toArray) := ⟨_, rfl⟩
  have stX := fun W => st_it W (X := X) (by rw [hX.out]; rfl) (by rw [hX.out]; kernel_rfl)
  unfold zeroI at stX
  have sX : X.size = 19 := by rw [hX.out]; rfl
  refine Calls.mono (must_c k_reps _ r0) ?_
  rintro e w1 h1
  obtain ⟨t1, _, rfl, rfl, r1⟩ := Out.of_ok hm1 h1
  have Rs1 := Rs0.turn t1 hne
  have T1 := tn T0 t1
  have s1 := t1.size
  clear Rs0 T0 r0 h1 t1
  go_wp2_with (refine wpList_it rfl _ _ rfl 2 (t0.at_ : Int) rfl rfl X hX.out ?_)
  have t2 := tnO (ob := .cells X 53) (Turn.refl [rb] w1)
  have r2 := r1.onO (ob := .cells X 53)
  have Lt2 : Box (w1.alloc (.cells X 53)) w1.heap.size (itC (it0 2 (t0.at_ : Int)) (.slice none 0 0) (.slice none 0 0)) := by rw [hX.out]; exact Box.new w1 _ _
  have hnLt : w1.heap.size ∉ [rb] := by simp; omega
  have hxLt : w1.heap.size < (w1.alloc (.cells X 53)).heap.size := by simp
  have Rs2 := Rs1.turn t2 hne
  have T2 := tn T1 t2
  have s2 := t2.size
  clear Rs1 T1 r1 t2 stX sX
  obtain ⟨g, hgg⟩ : ∃ g : Nat, Hid (g = w1.heap.size) := ⟨_, rfl⟩
  have hg1 : w.heap.size < g := by rw [hgg.out]; omega
  have hg2 : g < (w1.alloc (.cells X 53)).heap.size := by rw [hgg.out]; simp
  rw [← hgg.out] at Lt2 hnLt hxLt ⊢
  generalize hW2 : w1.alloc _ = w2 at *
  clear hW2 hX
  rw [repsP] at hpr
  refine Calls.mono (take_c2 2 (by decide) _ r2) ?_
  rintro e w3 h3
  rcases hy1 : takeK c 2 L.tail with f | q
  · obtain ⟨rfl, t3⟩ := Out.of_err hy1 h3
    go_wp2_with fail
    exact ⟨rfl, hE.out _ _ (by rw [hpr.out, hy1]; rfl) (tn T2 t3)⟩
  obtain ⟨t3, _, rfl, rfl, r3⟩ := Out.of_ok hy1 h3
  have Rs3 := Rs2.turn t3 hne
  have Lt3 := Lt2.turn t3 hnLt
  have T3 := tn T2 t3
  have s3 := t3.size
  clear Rs2 Lt2 T2 r2 h3 t3
  have hpr1 : Hid (pr = bnd (mustS c k_dots q.2) fun b => bnd (takeK c 2 b.2) fun d => bnd (mayS c k_step d.2) fun s => if s.1 = true then bnd (takeK c 2 s.2) fun e => .ok (itm 2 noB noB q.1.n d.1.n e.1.n nilM nilM t0.at_, e.2) else .ok (itm 2 noB noB q.1.n d.1.n 0 nilM nilM t0.at_, s.2)) := by show _ = _; rw [hpr.out, hy1]; rfl
  simp only [tkW]
  have x0 := Lt3.cell 3 _ rfl
  have xf0 := Lt3.free 3 (by simp)
  have xl := Lt3.lt
  go_wp2_with fail
  clear x0 xf0
  have t4 := turn_set w3 g 3 (.int .i64 q.1.n)
  have r4 := r3.turn1 t4 (by omega)
  have T4 := T3.andSet ⟨g, 3, none⟩ (.int .i64 q.1.n) (.inr (by show w.heap.size ≤ g; omega))
  have s4 := t4.size
  have Lt4 : Box (w3.setCell ⟨g, 3, none⟩ (.int .i64 q.1.n)) g (itC ⟨2, ⟨#[]⟩, ⟨#[]⟩, q.1.n, 0, 0, nilM, nilM, (t0.at_ : Int)⟩ (.slice none 0 0) (.slice none 0 0)) := Lt3.set 3 (by simp) (.int .i64 q.1.n)
  have Rs4 := Rs3.other (q := g) (j := 3) (v := .int .i64 q.1.n) (by omega)
  clear Rs3 Lt3 T3 r3 t4 xl
  generalize hW4 : w3.setCell _ _ = w4 at *
  clear hW4
  refine Calls.mono (must_c k_dots _ r4) ?_
  rintro e w5 h5
  rcases hy2 : mustS c k_dots q.2 with f | b
  · obtain ⟨rfl, t5⟩ := Out.of_err hy2 h5
    go_wp2_with fail
    exact ⟨rfl, hE.out _ _ (by rw [hpr1.out, hy2]; rfl) (tn T4 t5)⟩
  obtain ⟨t5, _, rfl, rfl, r5⟩ := Out.of_ok hy2 h5
  have Rs5 := Rs4.turn t5 hne
  have Lt5 := Lt4.turn t5 hnLt
  have T5 := tn T4 t5
  have s5 := t5.size
  clear Rs4 Lt4 T4 r4 h5 t5
  have hpr2 : Hid (pr = bnd (takeK c 2 b.2) fun d => bnd (mayS c k_step d.2) fun s => if s.1 = true then bnd (takeK c 2 s.2) fun e => .ok (itm 2 noB noB q.1.n d.1.n e.1.n nilM nilM t0.at_, e.2) else .ok (itm 2 noB noB q.1.n d.1.n 0 nilM nilM t0.at_, s.2)) := by show _ = _; rw [hpr1.out, hy2]; rfl
  go_wp2_with fail
  refine Calls.mono (take_c2 2 (by decide) _ r5) ?_
  rintro e w6 h6
  rcases hy3 : takeK c 2 b.2 with f | d
  · obtain ⟨rfl, t6⟩ := Out.of_err hy3 h6
    go_wp2_with fail
    exact ⟨rfl, hE.out _ _ (by rw [hpr2.out, hy3]; rfl) (tn T5 t6)⟩
  obtain ⟨t6, _, rfl, rfl, r6⟩ := Out.of_ok hy3 h6
  have Rs6 := Rs5.turn t6 hne
  have Lt6 := Lt5.turn t6 hnLt
  have T6 := tn T5 t6
  have s6 := t6.size
  clear Rs5 Lt5 T5 r5 h6 t6
  have hpr3 : Hid (pr = bnd (mayS c k_step d.2) fun s => if s.1 = true then bnd (takeK c 2 s.2) fun e => .ok (itm 2 noB noB q.1.n d.1.n e.1.n nilM nilM t0.at_, e.2) else .ok (itm 2 noB noB q.1.n d.1.n 0 nilM nilM t0.at_, s.2)) := by show _ = _; rw [hpr2.out, hy3]; rfl
  simp only [tkW]
  have x0 := Lt6.cell 4 _ rfl
  have xf0 := Lt6.free 4 (by simp)
  have xl := Lt6.lt
  go_wp2_with fail
  clear x0 xf0
  have t7 := turn_set w6 g 4 (.int .i64 d.1.n)
  have r7 := r6.turn1 t7 (by omega)
  have T7 := T6.andSet ⟨g, 4, none⟩ (.int .i64 d.1.n) (.inr (by show w.heap.size ≤ g; omega))
  have s7 := t7.size
  have Lt7 : Box (w6.setCell ⟨g, 4, none⟩ (.int .i64 d.1.n)) g (itC ⟨2, ⟨#[]⟩, ⟨#[]⟩, q.1.n, d.1.n, 0, nilM, nilM, (t0.at_ : Int)⟩ (.slice none 0 0) (.slice none 0 0)) := Lt6.set 4 (by simp) (.int .i64 d.1.n)
  have Rs7 := Rs6.other (q := g) (j := 4) (v := .int .i64 d.1.n) (by omega)
  clear Rs6 Lt6 T6 r6 t7 xl
  generalize hW7 : w6.setCell _ _ = w7 at *
  clear hW7
  refine Calls.mono (may_c k_step _ r7) ?_
  rintro e w8 h8
  rcases hy4 : mayS c k_step d.2 with f | st
  · obtain ⟨rfl, t8⟩ := Out.of_err hy4 h8
    go_wp2_with fail
    exact ⟨rfl, hE.out _ _ (by rw [hpr3.out, hy4]; rfl) (tn T7 t8)⟩
  obtain ⟨t8, _, rfl, rfl, r8⟩ := Out.of_ok hy4 h8
  have Rs8 := Rs7.turn t8 hne
  have Lt8 := Lt7.turn t8 hnLt
  have T8 := tn T7 t8
  have s8 := t8.size
  clear Rs7 Lt7 T7 r7 h8 t8
  have hpr4 : Hid (pr = if st.1 = true then bnd (takeK c 2 st.2) fun e => .ok (itm 2 noB noB q.1.n d.1.n e.1.n nilM nilM t0.at_, e.2) else .ok (itm 2 noB noB q.1.n d.1.n 0 nilM nilM t0.at_, st.2)) := by show _ = _; rw [hpr3.out, hy4]; rfl
  obtain ⟨sb, Ls⟩ := st
  cases sb
  · have hprn : Hid (pr = .ok (itm 2 noB noB q.1.n d.1.n 0 nilM nilM t0.at_, Ls)) := hpr4.out
    go_wp2_with fail
    obtain ⟨Y, hY⟩ : ∃ Y : Array Value, Hid (Y = (itC ⟨2, ⟨#[]⟩, ⟨#[]⟩, q.1.n, d.1.n, 0, nilM, nilM, (t0.at_ : Int)⟩ (.slice none 0 0) (.slice none 0 0)).toArray) := ⟨_, rfl⟩
    have sY : Y.size = 19 := by rw [hY.out]; rfl
    have ldY := ld_row (X := Y) Lt8 (by rw [hY.out]) (n := m) hm19.out
    have one0 : Y.all (·.oneCell') = true := by rw [hY.out]; kernel_rfl
    have one : ∀ v ∈ Y.toList, v.oneCell' = true := fun v hv => Array.all_eq_true_iff_forall_mem.1 one0 v (by simpa using hv)
    have stY := st_at w.heap.size Y.toList 0 w8 _ Rs8 (by simp [sY]) one
    have TF := hid2 (putRow_turn w.heap.size Y.toList 0 w8)
    have BF := putRow_whole Rs8 (X := Y.toList) (by simp [sY])
    have ldF := ld_row (X := Y) BF rfl (n := m) (by simp [sY, hm19.out])
    have xl := Lt8.lt
    have pl := Rs8.lt
    have HT := hid2 T8
    have HR := hid2 r8
    clear Lt8 Rs8 T8 r8 BF one one0
    generalize hWF : putRow w8 w.heap.size 0 Y.toList = WF at *
    clear hWF
    go_wp2_with fail
    rw [ldY]
    simp only [Result.andThen_ok]
    go_wp2_with fail
    refine bodyPost_ret (v := .agg Y) (by simp [results, Tryz.results49, go_sem, *]) rfl (hO.out ⟨2, ⟨#[]⟩, ⟨#[]⟩, q.1.n, d.1.n, 0, nilM, nilM, (t0.at_ : Int)⟩ (Ls) _ _ (.slice none 0 0) (.slice none 0 0) (hprn.out) ?_ (by rw [hY.out]) ⟨nil_sits z _, nil_sits z _, Nat.zero_le _, Nat.zero_le _⟩ ?_)
    · exact HT.out.trans TF.out (fun i hi => .inr (by simp at hi; omega))
    · exact HR.out.turn1 TF.out hL
  · have hprn : Hid (pr = bnd (takeK c 2 Ls) fun e => .ok (itm 2 noB noB q.1.n d.1.n e.1.n nilM nilM t0.at_, e.2)) := hpr4.out
    go_wp2_with fail
    refine Calls.mono (take_c2 2 (by decide) _ r8) ?_
    rintro e w9 h9
    rcases hy5 : takeK c 2 Ls with f | e1
    · obtain ⟨rfl, t9⟩ := Out.of_err hy5 h9
      go_wp2_with fail
      exact ⟨rfl, hE.out _ _ (by rw [hprn.out, hy5]; rfl) (tn T8 t9)⟩
    obtain ⟨t9, _, rfl, rfl, r9⟩ := Out.of_ok hy5 h9
    have Rs9 := Rs8.turn t9 hne
    have Lt9 := Lt8.turn t9 hnLt
    have T9 := tn T8 t9
    have s9 := t9.size
    clear Rs8 Lt8 T8 r8 h9 t9
    have hpr5 : Hid (pr = .ok (itm 2 noB noB q.1.n d.1.n e1.1.n nilM nilM t0.at_, e1.2)) := by show _ = _; rw [hprn.out, hy5]; rfl
    simp only [tkW]
    have x0 := Lt9.cell 5 _ rfl
    have xf0 := Lt9.free 5 (by simp)
    have xl := Lt9.lt
    go_wp2_with fail
    clear x0 xf0
    have t10 := turn_set w9 g 5 (.int .i64 e1.1.n)
    have r10 := r9.turn1 t10 (by omega)
    have T10 := T9.andSet ⟨g, 5, none⟩ (.int .i64 e1.1.n) (.inr (by show w.heap.size ≤ g; omega))
    have s10 := t10.size
    have Lt10 : Box (w9.setCell ⟨g, 5, none⟩ (.int .i64 e1.1.n)) g (itC ⟨2, ⟨#[]⟩, ⟨#[]⟩, q.1.n, d.1.n, e1.1.n, nilM, nilM, (t0.at_ : Int)⟩ (.slice none 0 0) (.slice none 0 0)) := Lt9.set 5 (by simp) (.int .i64 e1.1.n)
    have Rs10 := Rs9.other (q := g) (j := 5) (v := .int .i64 e1.1.n) (by omega)
    clear Rs9 Lt9 T9 r9 t10 xl
    generalize hW10 : w9.setCell _ _ = w10 at *
    clear hW10
    obtain ⟨Y, hY⟩ : ∃ Y : Array Value, Hid (Y = (itC ⟨2, ⟨#[]⟩, ⟨#[]⟩, q.1.n, d.1.n, e1.1.n, nilM, nilM, (t0.at_ : Int)⟩ (.slice none 0 0) (.slice none 0 0)).toArray) := ⟨_, rfl⟩
    have sY : Y.size = 19 := by rw [hY.out]; rfl
    have ldY := ld_row (X := Y) Lt10 (by rw [hY.out]) (n := m) hm19.out
    have one0 : Y.all (·.oneCell') = true := by rw [hY.out]; kernel_rfl
    have one : ∀ v ∈ Y.toList, v.oneCell' = true := fun v hv => Array.all_eq_true_iff_forall_mem.1 one0 v (by simpa using hv)
    have stY := st_at w.heap.size Y.toList 0 w10 _ Rs10 (by simp [sY]) one
    have TF := hid2 (putRow_turn w.heap.size Y.toList 0 w10)
    have BF := putRow_whole Rs10 (X := Y.toList) (by simp [sY])
    have ldF := ld_row (X := Y) BF rfl (n := m) (by simp [sY, hm19.out])
    have xl := Lt10.lt
    have pl := Rs10.lt
    have HT := hid2 T10
    have HR := hid2 r10
    clear Lt10 Rs10 T10 r10 BF one one0
    generalize hWF : putRow w10 w.heap.size 0 Y.toList = WF at *
    clear hWF
    go_wp2_with fail
    rw [ldY]
    simp only [Result.andThen_ok]
    go_wp2_with fail
    refine bodyPost_ret (v := .agg Y) (by simp [results, Tryz.results49, go_sem, *]) rfl (hO.out ⟨2, ⟨#[]⟩, ⟨#[]⟩, q.1.n, d.1.n, e1.1.n, nilM, nilM, (t0.at_ : Int)⟩ (e1.2) _ _ (.slice none 0 0) (.slice none 0 0) (hpr5.out) ?_ (by rw [hY.out]) ⟨nil_sits z _, nil_sits z _, Nat.zero_le _, Nat.zero_le _⟩ ?_)
    · exact HT.out.trans TF.out (fun i hi => .inr (by simp at hi; omega))
    · exact HR.out.turn1 TF.out hL
set_option maxHeartbeats 4000000 in
set_option maxRecDepth 20000 in
theorem cool_c {z rb tb lb : Nat} {c : Int} {L : List Tk} {o : Nat} (_hz : z ≤ 9223372036854775807) {t0 : Tk} (hx : nxt c L = .ok t0) (hm : isT k_cooldown t0 = true) (w : World) (hr : Rea z w rb tb lb c L o) :
    Calls Tryz.prog 50 #[.pointer (some ⟨rb, 0, none⟩)] w (Out (VIt w.heap.size z) z w rb tb lb c o (coolP c t0.at_ L.tail)) := by
  obtain ⟨pr, hpr⟩ : ∃ pr, Hid (pr = coolP c t0.at_ L.tail) := ⟨_, rfl⟩
  rw [← hpr.out]
  have hE : Hid (∀ f w', pr = .error f → Turn [rb] w w' → Out (VIt w.heap.size z) z w rb tb lb c o pr (.panicked [fltE f]) w') := fun f w' h ht => Out.mk_err h ht
  have hO : Hid (∀ i L' w' v vx vy, pr = .ok (i, L') → Turn [rb] w w' → v = itA i vx vy → ItB w.heap.size z w' i vx vy → Rea z w' rb tb lb c L' o → Out (VIt w.heap.size z) z w rb tb lb c o pr (.returned v) w') := fun i L' w' v vx vy h ht hv hs hr' => Out.mk_ok h ht ⟨vx, vy, hv, hs⟩ hr'
  generalize Out (VIt w.heap.size z) z w rb tb lb c o pr = Post at *
  have hL := hr.lts
  have hne : w.heap.size ∉ [rb] := by simp; omega
  have fl1 := fld1
  have fl2 := fld2
  have hok := hr.tl.ok
  rw [← nxt_inv hx] at hok
  have hm1 := mustS_of hx hm
  obtain ⟨m, hm19⟩ : ∃ m : Nat, Hid (m = 19) := ⟨_, rfl⟩
  have zs : ∀ w, (sizeOf 53).run Tryz.prog w = .ok m w := by rw [hm19.out]; exact Tryz.sizeOf53
  have zm : (19 = m) = True := eq_true hm19.out.symm
  have Z0 := Box.new w zs19 53
  go_enter Tryz.func50, Tryz.ntmps50
  go_wp2_with fail
  have T0 := tnO (ob := .cells (zs19).toArray 53) (Turn.refl [rb] w)
  have r0 := hr.onO (ob := .cells (zs19).toArray 53)
  have Rs0 := Z0
  have zsz : w.heap.size < (w.alloc (.cells (zs19).toArray 53)).heap.size := by simp
  have hz0 : (w.alloc (.cells (zs19).toArray 53)).heap.size = w.heap.size + 1 := by simp
  clear Z0
  generalize hW0 : w.alloc _ = w0 at *
  clear hW0
  clear hz0
  clear hr
  obtain ⟨X, hX⟩ : ∃ X : Array Value, Hid (X = (itC (it0 3 (t0.at_ : Int)) (.slice none 0 0) (.slice none 0 0)).toArray) := ⟨_, rfl⟩
  have stX := fun W => st_it W (X := X) (by rw [hX.out]; rfl) (by rw [hX.out]; kernel_rfl)
  unfold zeroI at stX
  have sX : X.size = 19 := by rw [hX.out]; rfl
  refine Calls.mono (must_c k_cooldown _ r0) ?_
  rintro e w1 h1
  obtain ⟨t1, _, rfl, rfl, r1⟩ := Out.of_ok hm1 h1
  have Rs1 := Rs0.turn t1 hne
  have T1 := tn T0 t1
  have s1 := t1.size
  clear Rs0 T0 r0 h1 t1
  go_wp2_with (refine wpList_it rfl _ _ rfl 3 (t0.at_ : Int) rfl rfl X hX.out ?_)
  have t2 := tnO (ob := .cells X 53) (Turn.refl [rb] w1)
  have r2 := r1.onO (ob := .cells X 53)
  have Lt2 : Box (w1.alloc (.cells X 53)) w1.heap.size (itC (it0 3 (t0.at_ : Int)) (.slice none 0 0) (.slice none 0 0)) := by rw [hX.out]; exact Box.new w1 _ _
  have hnLt : w1.heap.size ∉ [rb] := by simp; omega
  have hxLt : w1.heap.size < (w1.alloc (.cells X 53)).heap.size := by simp
  have Rs2 := Rs1.turn t2 hne
  have T2 := tn T1 t2
  have s2 := t2.size
  clear Rs1 T1 r1 t2 stX sX
  obtain ⟨g, hgg⟩ : ∃ g : Nat, Hid (g = w1.heap.size) := ⟨_, rfl⟩
  have hg1 : w.heap.size < g := by rw [hgg.out]; omega
  have hg2 : g < (w1.alloc (.cells X 53)).heap.size := by rw [hgg.out]; simp
  rw [← hgg.out] at Lt2 hnLt hxLt ⊢
  generalize hW2 : w1.alloc _ = w2 at *
  clear hW2 hX
  rw [coolP] at hpr
  refine Calls.mono (may_c k_up _ r2) ?_
  rintro e w3 h3
  rcases hy1 : mayS c k_up L.tail with f | st
  · obtain ⟨rfl, t3⟩ := Out.of_err hy1 h3
    go_wp2_with fail
    exact ⟨rfl, hE.out _ _ (by rw [hpr.out, hy1]; rfl) (tn T2 t3)⟩
  obtain ⟨t3, _, rfl, rfl, r3⟩ := Out.of_ok hy1 h3
  have Rs3 := Rs2.turn t3 hne
  have Lt3 := Lt2.turn t3 hnLt
  have T3 := tn T2 t3
  have s3 := t3.size
  clear Rs2 Lt2 T2 r2 h3 t3
  have hpr1 : Hid (pr = if st.1 = true then bnd (takeK c 3 st.2) fun t => .ok (itm 3 noB noB t.1.n 0 0 nilM nilM t0.at_, t.2) else bnd (mustS c k_down st.2) fun b => bnd (takeK c 3 b.2) fun t => .ok (itm 4 noB noB t.1.n 0 0 nilM nilM t0.at_, t.2)) := by show _ = _; rw [hpr.out, hy1]; rfl
  obtain ⟨sb, Ls⟩ := st
  cases sb
  · have hprn : Hid (pr = bnd (mustS c k_down Ls) fun b => bnd (takeK c 3 b.2) fun t => .ok (itm 4 noB noB t.1.n 0 0 nilM nilM t0.at_, t.2)) := hpr1.out
    go_wp2_with fail
    refine Calls.mono (must_c k_down _ r3) ?_
    rintro e w4 h4
    rcases hy2 : mustS c k_down Ls with f | b
    · obtain ⟨rfl, t4⟩ := Out.of_err hy2 h4
      go_wp2_with fail
      exact ⟨rfl, hE.out _ _ (by rw [hprn.out, hy2]; rfl) (tn T3 t4)⟩
    obtain ⟨t4, _, rfl, rfl, r4⟩ := Out.of_ok hy2 h4
    have Rs4 := Rs3.turn t4 hne
    have Lt4 := Lt3.turn t4 hnLt
    have T4 := tn T3 t4
    have s4 := t4.size
    clear Rs3 Lt3 T3 r3 h4 t4
    have hpr2 : Hid (pr = bnd (takeK c 3 b.2) fun t => .ok (itm 4 noB noB t.1.n 0 0 nilM nilM t0.at_, t.2)) := by show _ = _; rw [hprn.out, hy2]; rfl
    have x0 := Lt4.cell 0 _ rfl
    have xf0 := Lt4.free 0 (by simp)
    have xl := Lt4.lt
    go_wp2_with fail
    clear x0 xf0
    have t5 := turn_set w4 g 0 (.int .i64 4)
    have r5 := r4.turn1 t5 (by omega)
    have T5 := T4.andSet ⟨g, 0, none⟩ (.int .i64 4) (.inr (by show w.heap.size ≤ g; omega))
    have s5 := t5.size
    have Lt5 : Box (w4.setCell ⟨g, 0, none⟩ (.int .i64 4)) g (itC ⟨4, ⟨#[]⟩, ⟨#[]⟩, 0, 0, 0, nilM, nilM, (t0.at_ : Int)⟩ (.slice none 0 0) (.slice none 0 0)) := Lt4.set 0 (by simp) (.int .i64 4)
    have Rs5 := Rs4.other (q := g) (j := 0) (v := .int .i64 4) (by omega)
    clear Rs4 Lt4 T4 r4 t5 xl
    generalize hW5 : w4.setCell _ _ = w5 at *
    clear hW5
    refine Calls.mono (take_c2 3 (by decide) _ r5) ?_
    rintro e w6 h6
    rcases hy3 : takeK c 3 b.2 with f | q
    · obtain ⟨rfl, t6⟩ := Out.of_err hy3 h6
      go_wp2_with fail
      exact ⟨rfl, hE.out _ _ (by rw [hpr2.out, hy3]; rfl) (tn T5 t6)⟩
    obtain ⟨t6, _, rfl, rfl, r6⟩ := Out.of_ok hy3 h6
    have Rs6 := Rs5.turn t6 hne
    have Lt6 := Lt5.turn t6 hnLt
    have T6 := tn T5 t6
    have s6 := t6.size
    clear Rs5 Lt5 T5 r5 h6 t6
    have hpr3 : Hid (pr = .ok (itm 4 noB noB q.1.n 0 0 nilM nilM t0.at_, q.2)) := by show _ = _; rw [hpr2.out, hy3]; rfl
    simp only [tkW]
    have x0 := Lt6.cell 3 _ rfl
    have xf0 := Lt6.free 3 (by simp)
    have xl := Lt6.lt
    go_wp2_with fail
    clear x0 xf0
    have t7 := turn_set w6 g 3 (.int .i64 q.1.n)
    have r7 := r6.turn1 t7 (by omega)
    have T7 := T6.andSet ⟨g, 3, none⟩ (.int .i64 q.1.n) (.inr (by show w.heap.size ≤ g; omega))
    have s7 := t7.size
    have Lt7 : Box (w6.setCell ⟨g, 3, none⟩ (.int .i64 q.1.n)) g (itC ⟨4, ⟨#[]⟩, ⟨#[]⟩, q.1.n, 0, 0, nilM, nilM, (t0.at_ : Int)⟩ (.slice none 0 0) (.slice none 0 0)) := Lt6.set 3 (by simp) (.int .i64 q.1.n)
    have Rs7 := Rs6.other (q := g) (j := 3) (v := .int .i64 q.1.n) (by omega)
    clear Rs6 Lt6 T6 r6 t7 xl
    generalize hW7 : w6.setCell _ _ = w7 at *
    clear hW7
    obtain ⟨Y, hY⟩ : ∃ Y : Array Value, Hid (Y = (itC ⟨4, ⟨#[]⟩, ⟨#[]⟩, q.1.n, 0, 0, nilM, nilM, (t0.at_ : Int)⟩ (.slice none 0 0) (.slice none 0 0)).toArray) := ⟨_, rfl⟩
    have sY : Y.size = 19 := by rw [hY.out]; rfl
    have ldY := ld_row (X := Y) Lt7 (by rw [hY.out]) (n := m) hm19.out
    have one0 : Y.all (·.oneCell') = true := by rw [hY.out]; kernel_rfl
    have one : ∀ v ∈ Y.toList, v.oneCell' = true := fun v hv => Array.all_eq_true_iff_forall_mem.1 one0 v (by simpa using hv)
    have stY := st_at w.heap.size Y.toList 0 w7 _ Rs7 (by simp [sY]) one
    have TF := hid2 (putRow_turn w.heap.size Y.toList 0 w7)
    have BF := putRow_whole Rs7 (X := Y.toList) (by simp [sY])
    have ldF := ld_row (X := Y) BF rfl (n := m) (by simp [sY, hm19.out])
    have xl := Lt7.lt
    have pl := Rs7.lt
    have HT := hid2 T7
    have HR := hid2 r7
    clear Lt7 Rs7 T7 r7 BF one one0
    generalize hWF : putRow w7 w.heap.size 0 Y.toList = WF at *
    clear hWF
    go_wp2_with fail
    rw [ldY]
    simp only [Result.andThen_ok]
    go_wp2_with fail
    refine bodyPost_ret (v := .agg Y) (by simp [results, Tryz.results50, go_sem, *]) rfl (hO.out ⟨4, ⟨#[]⟩, ⟨#[]⟩, q.1.n, 0, 0, nilM, nilM, (t0.at_ : Int)⟩ (q.2) _ _ (.slice none 0 0) (.slice none 0 0) (hpr3.out) ?_ (by rw [hY.out]) ⟨nil_sits z _, nil_sits z _, Nat.zero_le _, Nat.zero_le _⟩ ?_)
    · exact HT.out.trans TF.out (fun i hi => .inr (by simp at hi; omega))
    · exact HR.out.turn1 TF.out hL
  · have hprn : Hid (pr = bnd (takeK c 3 Ls) fun t => .ok (itm 3 noB noB t.1.n 0 0 nilM nilM t0.at_, t.2)) := hpr1.out
    go_wp2_with fail
    refine Calls.mono (take_c2 3 (by decide) _ r3) ?_
    rintro e w4 h4
    rcases hy2 : takeK c 3 Ls with f | q
    · obtain ⟨rfl, t4⟩ := Out.of_err hy2 h4
      go_wp2_with fail
      exact ⟨rfl, hE.out _ _ (by rw [hprn.out, hy2]; rfl) (tn T3 t4)⟩
    obtain ⟨t4, _, rfl, rfl, r4⟩ := Out.of_ok hy2 h4
    have Rs4 := Rs3.turn t4 hne
    have Lt4 := Lt3.turn t4 hnLt
    have T4 := tn T3 t4
    have s4 := t4.size
    clear Rs3 Lt3 T3 r3 h4 t4
    have hpr2 : Hid (pr = .ok (itm 3 noB noB q.1.n 0 0 nilM nilM t0.at_, q.2)) := by show _ = _; rw [hprn.out, hy2]; rfl
    simp only [tkW]
    have x0 := Lt4.cell 3 _ rfl
    have xf0 := Lt4.free 3 (by simp)
    have xl := Lt4.lt
    go_wp2_with fail
    clear x0 xf0
    have t5 := turn_set w4 g 3 (.int .i64 q.1.n)
    have r5 := r4.turn1 t5 (by omega)
    have T5 := T4.andSet ⟨g, 3, none⟩ (.int .i64 q.1.n) (.inr (by show w.heap.size ≤ g; omega))
    have s5 := t5.size
    have Lt5 : Box (w4.setCell ⟨g, 3, none⟩ (.int .i64 q.1.n)) g (itC ⟨3, ⟨#[]⟩, ⟨#[]⟩, q.1.n, 0, 0, nilM, nilM, (t0.at_ : Int)⟩ (.slice none 0 0) (.slice none 0 0)) := Lt4.set 3 (by simp) (.int .i64 q.1.n)
    have Rs5 := Rs4.other (q := g) (j := 3) (v := .int .i64 q.1.n) (by omega)
    clear Rs4 Lt4 T4 r4 t5 xl
    generalize hW5 : w4.setCell _ _ = w5 at *
    clear hW5
    obtain ⟨Y, hY⟩ : ∃ Y : Array Value, Hid (Y = (itC ⟨3, ⟨#[]⟩, ⟨#[]⟩, q.1.n, 0, 0, nilM, nilM, (t0.at_ : Int)⟩ (.slice none 0 0) (.slice none 0 0)).toArray) := ⟨_, rfl⟩
    have sY : Y.size = 19 := by rw [hY.out]; rfl
    have ldY := ld_row (X := Y) Lt5 (by rw [hY.out]) (n := m) hm19.out
    have one0 : Y.all (·.oneCell') = true := by rw [hY.out]; kernel_rfl
    have one : ∀ v ∈ Y.toList, v.oneCell' = true := fun v hv => Array.all_eq_true_iff_forall_mem.1 one0 v (by simpa using hv)
    have stY := st_at w.heap.size Y.toList 0 w5 _ Rs5 (by simp [sY]) one
    have TF := hid2 (putRow_turn w.heap.size Y.toList 0 w5)
    have BF := putRow_whole Rs5 (X := Y.toList) (by simp [sY])
    have ldF := ld_row (X := Y) BF rfl (n := m) (by simp [sY, hm19.out])
    have xl := Lt5.lt
    have pl := Rs5.lt
    have HT := hid2 T5
    have HR := hid2 r5
    clear Lt5 Rs5 T5 r5 BF one one0
    generalize hWF : putRow w5 w.heap.size 0 Y.toList = WF at *
    clear hWF
    go_wp2_with fail
    rw [ldY]
    simp only [Result.andThen_ok]
    go_wp2_with fail
    refine bodyPost_ret (v := .agg Y) (by simp [results, Tryz.results50, go_sem, *]) rfl (hO.out ⟨3, ⟨#[]⟩, ⟨#[]⟩, q.1.n, 0, 0, nilM, nilM, (t0.at_ : Int)⟩ (q.2) _ _ (.slice none 0 0) (.slice none 0 0) (hpr2.out) ?_ (by rw [hY.out]) ⟨nil_sits z _, nil_sits z _, Nat.zero_le _, Nat.zero_le _⟩ ?_)
    · exact HT.out.trans TF.out (fun i hi => .inr (by simp at hi; omega))
    · exact HR.out.turn1 TF.out hL
set_option maxHeartbeats 4000000 in
set_option maxRecDepth 20000 in
theorem let_c {z rb tb lb : Nat} {c : Int} {L : List Tk} {o : Nat} (_hz : z ≤ 9223372036854775807) {E : Ps} (HE : ExC z rb tb lb c o 21 E) {t0 : Tk} (hx : nxt c L = .ok t0) (hm : isT k_let t0 = true) (w : World) (hr : Rea z w rb tb lb c L o) :
    Calls Tryz.prog 51 #[.pointer (some ⟨rb, 0, none⟩)] w (Out (VIt w.heap.size z) z w rb tb lb c o (letP c E t0.at_ L.tail)) := by
  obtain ⟨pr, hpr⟩ : ∃ pr, Hid (pr = letP c E t0.at_ L.tail) := ⟨_, rfl⟩
  rw [← hpr.out]
  have hE : Hid (∀ f w', pr = .error f → Turn [rb] w w' → Out (VIt w.heap.size z) z w rb tb lb c o pr (.panicked [fltE f]) w') := fun f w' h ht => Out.mk_err h ht
  have hO : Hid (∀ i L' w' v vx vy, pr = .ok (i, L') → Turn [rb] w w' → v = itA i vx vy → ItB w.heap.size z w' i vx vy → Rea z w' rb tb lb c L' o → Out (VIt w.heap.size z) z w rb tb lb c o pr (.returned v) w') := fun i L' w' v vx vy h ht hv hs hr' => Out.mk_ok h ht ⟨vx, vy, hv, hs⟩ hr'
  generalize Out (VIt w.heap.size z) z w rb tb lb c o pr = Post at *
  have hL := hr.lts
  have hne : w.heap.size ∉ [rb] := by simp; omega
  have fl1 := fld1
  have fl2 := fld2
  have hok := hr.tl.ok
  rw [← nxt_inv hx] at hok
  have hm1 := mustS_of hx hm
  obtain ⟨m, hm19⟩ : ∃ m : Nat, Hid (m = 19) := ⟨_, rfl⟩
  have zs : ∀ w, (sizeOf 53).run Tryz.prog w = .ok m w := by rw [hm19.out]; exact Tryz.sizeOf53
  have zm : (19 = m) = True := eq_true hm19.out.symm
  have Z0 := Box.new w zs19 53
  go_enter Tryz.func51, Tryz.ntmps51
  go_wp2_with fail
  have T0 := tnO (ob := .cells (zs19).toArray 53) (Turn.refl [rb] w)
  have r0 := hr.onO (ob := .cells (zs19).toArray 53)
  have Rs0 := Z0
  have zsz : w.heap.size < (w.alloc (.cells (zs19).toArray 53)).heap.size := by simp
  have hz0 : (w.alloc (.cells (zs19).toArray 53)).heap.size = w.heap.size + 1 := by simp
  clear Z0
  generalize hW0 : w.alloc _ = w0 at *
  clear hW0
  clear hz0
  clear hr
  obtain ⟨X, hX⟩ : ∃ X : Array Value, Hid (X = (itC (it0 5 (t0.at_ : Int)) (.slice none 0 0) (.slice none 0 0)).toArray) := ⟨_, rfl⟩
  have stX := fun W => st_it W (X := X) (by rw [hX.out]; rfl) (by rw [hX.out]; kernel_rfl)
  unfold zeroI at stX
  have sX : X.size = 19 := by rw [hX.out]; rfl
  refine Calls.mono (must_c k_let _ r0) ?_
  rintro e w1 h1
  obtain ⟨t1, _, rfl, rfl, r1⟩ := Out.of_ok hm1 h1
  have Rs1 := Rs0.turn t1 hne
  have T1 := tn T0 t1
  have s1 := t1.size
  clear Rs0 T0 r0 h1 t1
  go_wp2_with (refine wpList_it rfl _ _ rfl 5 (t0.at_ : Int) rfl rfl X hX.out ?_)
  have t2 := tnO (ob := .cells X 53) (Turn.refl [rb] w1)
  have r2 := r1.onO (ob := .cells X 53)
  have Lt2 : Box (w1.alloc (.cells X 53)) w1.heap.size (itC (it0 5 (t0.at_ : Int)) (.slice none 0 0) (.slice none 0 0)) := by rw [hX.out]; exact Box.new w1 _ _
  have hnLt : w1.heap.size ∉ [rb] := by simp; omega
  have hxLt : w1.heap.size < (w1.alloc (.cells X 53)).heap.size := by simp
  have Rs2 := Rs1.turn t2 hne
  have T2 := tn T1 t2
  have s2 := t2.size
  clear Rs1 T1 r1 t2 stX sX
  obtain ⟨g, hgg⟩ : ∃ g : Nat, Hid (g = w1.heap.size) := ⟨_, rfl⟩
  have hg1 : w.heap.size < g := by rw [hgg.out]; omega
  have hg2 : g < (w1.alloc (.cells X 53)).heap.size := by rw [hgg.out]; simp
  rw [← hgg.out] at Lt2 hnLt hxLt ⊢
  generalize hW2 : w1.alloc _ = w2 at *
  clear hW2 hX
  rw [letP] at hpr
  have htl1 := r2.tl
  refine Calls.mono (take_c2 1 (by decide) _ r2) ?_
  rintro e w3 h3
  rcases hy1 : takeK c 1 L.tail with f | q
  · obtain ⟨rfl, t3⟩ := Out.of_err hy1 h3
    go_wp2_with fail
    exact ⟨rfl, hE.out _ _ (by rw [hpr.out, hy1]; rfl) (tn T2 t3)⟩
  obtain ⟨t3, _, rfl, rfl, r3⟩ := Out.of_ok hy1 h3
  have Rs3 := Rs2.turn t3 hne
  have Lt3 := Lt2.turn t3 hnLt
  have T3 := tn T2 t3
  have s3 := t3.size
  clear Rs2 Lt2 T2 r2 h3 t3
  have hpr1 : Hid (pr = bnd (mustS c k_eq q.2) fun b => bnd (E b.2) fun y => .ok (itm 5 q.1.text noB 0 0 0 y.1 nilM t0.at_, y.2)) := by show _ = _; rw [hpr.out, hy1]; rfl
  simp only [tkW]
  have x0 := Lt3.cell 1 _ rfl
  have xf0 := Lt3.free 1 (by simp)
  have xl := Lt3.lt
  go_wp2_with fail
  clear x0 xf0
  have t4 := turn_set w3 g 1 (.string q.1.text)
  have r4 := r3.turn1 t4 (by omega)
  have T4 := T3.andSet ⟨g, 1, none⟩ (.string q.1.text) (.inr (by show w.heap.size ≤ g; omega))
  have s4 := t4.size
  have Lt4 : Box (w3.setCell ⟨g, 1, none⟩ (.string q.1.text)) g (itC ⟨5, q.1.text, ⟨#[]⟩, 0, 0, 0, nilM, nilM, (t0.at_ : Int)⟩ (.slice none 0 0) (.slice none 0 0)) := Lt3.set 1 (by simp) (.string q.1.text)
  have Rs4 := Rs3.other (q := g) (j := 1) (v := .string q.1.text) (by omega)
  clear Rs3 Lt3 T3 r3 t4 xl
  generalize hW4 : w3.setCell _ _ = w4 at *
  clear hW4
  refine Calls.mono (must_c k_eq _ r4) ?_
  rintro e w5 h5
  rcases hy2 : mustS c k_eq q.2 with f | b
  · obtain ⟨rfl, t5⟩ := Out.of_err hy2 h5
    go_wp2_with fail
    exact ⟨rfl, hE.out _ _ (by rw [hpr1.out, hy2]; rfl) (tn T4 t5)⟩
  obtain ⟨t5, _, rfl, rfl, r5⟩ := Out.of_ok hy2 h5
  have Rs5 := Rs4.turn t5 hne
  have Lt5 := Lt4.turn t5 hnLt
  have T5 := tn T4 t5
  have s5 := t5.size
  clear Rs4 Lt4 T4 r4 h5 t5
  have hpr2 : Hid (pr = bnd (E b.2) fun y => .ok (itm 5 q.1.text noB 0 0 0 y.1 nilM t0.at_, y.2)) := by show _ = _; rw [hpr1.out, hy2]; rfl
  go_wp2_with fail
  refine Calls.mono (HE _ _ r5) ?_
  rintro e w6 h6
  rcases hy3 : E b.2 with f | y
  · obtain ⟨rfl, t6⟩ := Out.of_err hy3 h6
    go_wp2_with fail
    exact ⟨rfl, hE.out _ _ (by rw [hpr2.out, hy3]; rfl) (tn T5 t6)⟩
  obtain ⟨t6, _, rfl, ⟨u6, rfl, S6⟩, r6⟩ := Out.of_ok hy3 h6
  have Rs6 := Rs5.turn t6 hne
  have Lt6 := Lt5.turn t6 hnLt
  have T6 := tn T5 t6
  have s6 := t6.size
  clear Rs5 Lt5 T5 r5 h6 t6
  have hpr3 : Hid (pr = .ok (itm 5 q.1.text noB 0 0 0 y.1 nilM t0.at_, y.2)) := by show _ = _; rw [hpr2.out, hy3]; rfl
  simp only [tmV]
  obtain ⟨av6, cv6, hu, -, -⟩ := S6.parts.shape
  subst hu
  have Sx6 := S6
  clear S6
  generalize hnn6 : y.1.parts.length = nn6 at *
  obtain ⟨x0, x1, x2, x3, x4, x5, y0, y1, y2, y3, y4, y5⟩ := Lt6.cells_at 6 _ _ _ _ _ _ rfl rfl rfl rfl rfl rfl
  have xl := Lt6.lt
  go_wp2_with fail
  clear x0 x1 x2 x3 x4 x5 y0 y1 y2 y3 y4 y5
  have t7 := turn_six_at w6 g 6 (.int .i64 y.1.kind) (.string y.1.text) (.int .i64 y.1.n) (.int .i64 y.1.m) (.int .i64 y.1.pl) (.slice av6 nn6 cv6)
  have Lt7 : Box _ g (itC ⟨5, q.1.text, ⟨#[]⟩, 0, 0, 0, y.1, nilM, (t0.at_ : Int)⟩ (.slice av6 nn6 cv6) (.slice none 0 0)) := Lt6.six_at 6 (by simp) (.int .i64 y.1.kind) (.string y.1.text) (.int .i64 y.1.n) (.int .i64 y.1.m) (.int .i64 y.1.pl) (.slice av6 nn6 cv6)
  have r7 := r6.turn1 t7 (by omega)
  have T7 := T6.trans t7 (fun i hi => .inr (by simp at hi; omega))
  have s7 := t7.size
  have Rs7 := Rs6.turn t7 (by simp; omega)
  have Sx7 := SitB.turn Sx6 t7 (by simp; omega)
  clear Rs6 Lt6 Sx6 T6 r6 t7 xl
  generalize hW7 : ((((((w6.setCell _ _).setCell _ _).setCell _ _).setCell _ _).setCell _ _).setCell _ _) = w7 at *
  clear hW7
  obtain ⟨Y, hY⟩ : ∃ Y : Array Value, Hid (Y = (itC ⟨5, q.1.text, ⟨#[]⟩, 0, 0, 0, y.1, nilM, (t0.at_ : Int)⟩ (.slice av6 nn6 cv6) (.slice none 0 0)).toArray) := ⟨_, rfl⟩
  have sY : Y.size = 19 := by rw [hY.out]; rfl
  have ldY := ld_row (X := Y) Lt7 (by rw [hY.out]) (n := m) hm19.out
  have one0 : Y.all (·.oneCell') = true := by rw [hY.out]; kernel_rfl
  have one : ∀ v ∈ Y.toList, v.oneCell' = true := fun v hv => Array.all_eq_true_iff_forall_mem.1 one0 v (by simpa using hv)
  have stY := st_at w.heap.size Y.toList 0 w7 _ Rs7 (by simp [sY]) one
  have TF := hid2 (putRow_turn w.heap.size Y.toList 0 w7)
  have BF := putRow_whole Rs7 (X := Y.toList) (by simp [sY])
  have ldF := ld_row (X := Y) BF rfl (n := m) (by simp [sY, hm19.out])
  have xl := Lt7.lt
  have pl := Rs7.lt
  have HT := hid2 T7
  have HR := hid2 r7
  have HSx := hid2 Sx7
  clear Sx7
  clear Lt7 Rs7 T7 r7 BF one one0
  generalize hWF : putRow w7 w.heap.size 0 Y.toList = WF at *
  clear hWF
  go_wp2_with fail
  rw [ldY]
  simp only [Result.andThen_ok]
  go_wp2_with fail
  refine bodyPost_ret (v := .agg Y) (by simp [results, Tryz.results51, go_sem, *]) rfl (hO.out ⟨5, q.1.text, ⟨#[]⟩, 0, 0, 0, y.1, nilM, (t0.at_ : Int)⟩ (y.2) _ _ (.slice av6 nn6 cv6) (.slice none 0 0) (hpr3.out) ?_ (by rw [hY.out]) ⟨SitB.lower (SitB.turn HSx.out TF.out (by simp; omega)) (by omega), nil_sits z _, (takeK_tl htl1 hy1 (by decide)).1.x, Nat.zero_le _⟩ ?_)
  · exact HT.out.trans TF.out (fun i hi => .inr (by simp at hi; omega))
  · exact HR.out.turn1 TF.out hL
set_option maxHeartbeats 4000000 in
set_option maxRecDepth 20000 in
theorem guard_c {z rb tb lb : Nat} {c : Int} {L : List Tk} {o : Nat} (_hz : z ≤ 9223372036854775807) {E A : Ps} (HE : ExC z rb tb lb c o 21 E) {N : Nat} (HA : AcC z rb tb lb c o N 53 A) (hDE : Dec E) (hN : L.length ≤ N) {t0 : Tk} (hx : nxt c L = .ok t0) (hm : isT k_guard t0 = true) (w : World) (hr : Rea z w rb tb lb c L o) :
    Calls Tryz.prog 52 #[.pointer (some ⟨rb, 0, none⟩)] w (Out (VIt w.heap.size z) z w rb tb lb c o (guardP c E A t0.at_ L.tail)) := by
  obtain ⟨pr, hpr⟩ : ∃ pr, Hid (pr = guardP c E A t0.at_ L.tail) := ⟨_, rfl⟩
  rw [← hpr.out]
  have hE : Hid (∀ f w', pr = .error f → Turn [rb] w w' → Out (VIt w.heap.size z) z w rb tb lb c o pr (.panicked [fltE f]) w') := fun f w' h ht => Out.mk_err h ht
  have hO : Hid (∀ i L' w' v vx vy, pr = .ok (i, L') → Turn [rb] w w' → v = itA i vx vy → ItB w.heap.size z w' i vx vy → Rea z w' rb tb lb c L' o → Out (VIt w.heap.size z) z w rb tb lb c o pr (.returned v) w') := fun i L' w' v vx vy h ht hv hs hr' => Out.mk_ok h ht ⟨vx, vy, hv, hs⟩ hr'
  generalize Out (VIt w.heap.size z) z w rb tb lb c o pr = Post at *
  have hL := hr.lts
  have hne : w.heap.size ∉ [rb] := by simp; omega
  have fl1 := fld1
  have fl2 := fld2
  have hok := hr.tl.ok
  rw [← nxt_inv hx] at hok
  have hm1 := mustS_of hx hm
  obtain ⟨m, hm19⟩ : ∃ m : Nat, Hid (m = 19) := ⟨_, rfl⟩
  have zs : ∀ w, (sizeOf 53).run Tryz.prog w = .ok m w := by rw [hm19.out]; exact Tryz.sizeOf53
  have zm : (19 = m) = True := eq_true hm19.out.symm
  have Z0 := Box.new w zs19 53
  go_enter Tryz.func52, Tryz.ntmps52
  go_wp2_with fail
  have T0 := tnO (ob := .cells (zs19).toArray 53) (Turn.refl [rb] w)
  have r0 := hr.onO (ob := .cells (zs19).toArray 53)
  have Rs0 := Z0
  have zsz : w.heap.size < (w.alloc (.cells (zs19).toArray 53)).heap.size := by simp
  have hz0 : (w.alloc (.cells (zs19).toArray 53)).heap.size = w.heap.size + 1 := by simp
  clear Z0
  generalize hW0 : w.alloc _ = w0 at *
  clear hW0
  clear hz0
  clear hr
  obtain ⟨X, hX⟩ : ∃ X : Array Value, Hid (X = (itC (it0 6 (t0.at_ : Int)) (.slice none 0 0) (.slice none 0 0)).toArray) := ⟨_, rfl⟩
  have stX := fun W => st_it W (X := X) (by rw [hX.out]; rfl) (by rw [hX.out]; kernel_rfl)
  unfold zeroI at stX
  have sX : X.size = 19 := by rw [hX.out]; rfl
  refine Calls.mono (must_c k_guard _ r0) ?_
  rintro e w1 h1
  obtain ⟨t1, _, rfl, rfl, r1⟩ := Out.of_ok hm1 h1
  have Rs1 := Rs0.turn t1 hne
  have T1 := tn T0 t1
  have s1 := t1.size
  clear Rs0 T0 r0 h1 t1
  go_wp2_with (refine wpList_it rfl _ _ rfl 6 (t0.at_ : Int) rfl rfl X hX.out ?_)
  have t2 := tnO (ob := .cells X 53) (Turn.refl [rb] w1)
  have r2 := r1.onO (ob := .cells X 53)
  have Lt2 : Box (w1.alloc (.cells X 53)) w1.heap.size (itC (it0 6 (t0.at_ : Int)) (.slice none 0 0) (.slice none 0 0)) := by rw [hX.out]; exact Box.new w1 _ _
  have hnLt : w1.heap.size ∉ [rb] := by simp; omega
  have hxLt : w1.heap.size < (w1.alloc (.cells X 53)).heap.size := by simp
  have Rs2 := Rs1.turn t2 hne
  have T2 := tn T1 t2
  have s2 := t2.size
  clear Rs1 T1 r1 t2 stX sX
  obtain ⟨g, hgg⟩ : ∃ g : Nat, Hid (g = w1.heap.size) := ⟨_, rfl⟩
  have hg1 : w.heap.size < g := by rw [hgg.out]; omega
  have hg2 : g < (w1.alloc (.cells X 53)).heap.size := by rw [hgg.out]; simp
  rw [← hgg.out] at Lt2 hnLt hxLt ⊢
  generalize hW2 : w1.alloc _ = w2 at *
  clear hW2 hX
  rw [guardP] at hpr
  refine Calls.mono (HE _ _ r2) ?_
  rintro e w3 h3
  rcases hy1 : E L.tail with f | y
  · obtain ⟨rfl, t3⟩ := Out.of_err hy1 h3
    go_wp2_with fail
    exact ⟨rfl, hE.out _ _ (by rw [hpr.out, hy1]; rfl) (tn T2 t3)⟩
  obtain ⟨t3, _, rfl, ⟨u3, rfl, S3⟩, r3⟩ := Out.of_ok hy1 h3
  have Rs3 := Rs2.turn t3 hne
  have Lt3 := Lt2.turn t3 hnLt
  have T3 := tn T2 t3
  have s3 := t3.size
  clear Rs2 Lt2 T2 r2 h3 t3
  have hpr1 : Hid (pr = bnd (mustS c k_then y.2) fun b => bnd (A b.2) fun q => .ok (itm 6 noB noB 0 0 0 y.1 q.1 t0.at_, q.2)) := by show _ = _; rw [hpr.out, hy1]; rfl
  simp only [tmV]
  obtain ⟨av6, cv6, hu, -, -⟩ := S3.parts.shape
  subst hu
  have Sx3 := S3
  clear S3
  generalize hnn6 : y.1.parts.length = nn6 at *
  obtain ⟨x0, x1, x2, x3, x4, x5, y0, y1, y2, y3, y4, y5⟩ := Lt3.cells_at 6 _ _ _ _ _ _ rfl rfl rfl rfl rfl rfl
  have xl := Lt3.lt
  go_wp2_with fail
  clear x0 x1 x2 x3 x4 x5 y0 y1 y2 y3 y4 y5
  have t4 := turn_six_at w3 g 6 (.int .i64 y.1.kind) (.string y.1.text) (.int .i64 y.1.n) (.int .i64 y.1.m) (.int .i64 y.1.pl) (.slice av6 nn6 cv6)
  have Lt4 : Box _ g (itC ⟨6, ⟨#[]⟩, ⟨#[]⟩, 0, 0, 0, y.1, nilM, (t0.at_ : Int)⟩ (.slice av6 nn6 cv6) (.slice none 0 0)) := Lt3.six_at 6 (by simp) (.int .i64 y.1.kind) (.string y.1.text) (.int .i64 y.1.n) (.int .i64 y.1.m) (.int .i64 y.1.pl) (.slice av6 nn6 cv6)
  have r4 := r3.turn1 t4 (by omega)
  have T4 := T3.trans t4 (fun i hi => .inr (by simp at hi; omega))
  have s4 := t4.size
  have Rs4 := Rs3.turn t4 (by simp; omega)
  have Sx4 := SitB.turn Sx3 t4 (by simp; omega)
  clear Rs3 Lt3 Sx3 T3 r3 t4 xl
  generalize hW4 : ((((((w3.setCell _ _).setCell _ _).setCell _ _).setCell _ _).setCell _ _).setCell _ _) = w4 at *
  clear hW4
  refine Calls.mono (must_c k_then _ r4) ?_
  rintro e w5 h5
  rcases hy2 : mustS c k_then y.2 with f | b
  · obtain ⟨rfl, t5⟩ := Out.of_err hy2 h5
    go_wp2_with fail
    exact ⟨rfl, hE.out _ _ (by rw [hpr1.out, hy2]; rfl) (tn T4 t5)⟩
  obtain ⟨t5, _, rfl, rfl, r5⟩ := Out.of_ok hy2 h5
  have Rs5 := Rs4.turn t5 hne
  have Lt5 := Lt4.turn t5 hnLt
  have Sx5 := SitB.turn Sx4 t5 (by simp; omega)
  have T5 := tn T4 t5
  have s5 := t5.size
  clear Rs4 Lt4 Sx4 T4 r4 h5 t5
  have hpr2 : Hid (pr = bnd (A b.2) fun q => .ok (itm 6 noB noB 0 0 0 y.1 q.1 t0.at_, q.2)) := by show _ = _; rw [hpr1.out, hy2]; rfl
  go_wp2_with fail
  have hbN : b.2.length ≤ N := by
    have h1 := hDE _ _ hy1
    have h2 := dec_must hy2
    have h3 := tail_le L
    omega
  refine Calls.mono (HA _ hbN _ r5) ?_
  rintro e w6 h6
  rcases hy3 : A b.2 with f | q
  · obtain ⟨rfl, t6⟩ := Out.of_err hy3 h6
    go_wp2_with fail
    exact ⟨rfl, hE.out _ _ (by rw [hpr2.out, hy3]; rfl) (tn T5 t6)⟩
  obtain ⟨t6, _, rfl, ⟨u6, rfl, S6⟩, r6⟩ := Out.of_ok hy3 h6
  have Rs6 := Rs5.turn t6 hne
  have Lt6 := Lt5.turn t6 hnLt
  have Sx6 := SitB.turn Sx5 t6 (by simp; omega)
  have T6 := tn T5 t6
  have s6 := t6.size
  clear Rs5 Lt5 Sx5 T5 r5 h6 t6
  have hpr3 : Hid (pr = .ok (itm 6 noB noB 0 0 0 y.1 q.1 t0.at_, q.2)) := by show _ = _; rw [hpr2.out, hy3]; rfl
  simp only [tmV]
  obtain ⟨av12, cv12, hu, -, -⟩ := S6.parts.shape
  subst hu
  have Sy6 := S6
  clear S6
  generalize hnn12 : q.1.parts.length = nn12 at *
  obtain ⟨x0, x1, x2, x3, x4, x5, y0, y1, y2, y3, y4, y5⟩ := Lt6.cells_at 12 _ _ _ _ _ _ rfl rfl rfl rfl rfl rfl
  have xl := Lt6.lt
  go_wp2_with fail
  clear x0 x1 x2 x3 x4 x5 y0 y1 y2 y3 y4 y5
  have t7 := turn_six_at w6 g 12 (.int .i64 q.1.kind) (.string q.1.text) (.int .i64 q.1.n) (.int .i64 q.1.m) (.int .i64 q.1.pl) (.slice av12 nn12 cv12)
  have Lt7 : Box _ g (itC ⟨6, ⟨#[]⟩, ⟨#[]⟩, 0, 0, 0, y.1, q.1, (t0.at_ : Int)⟩ (.slice av6 nn6 cv6) (.slice av12 nn12 cv12)) := Lt6.six_at 12 (by simp) (.int .i64 q.1.kind) (.string q.1.text) (.int .i64 q.1.n) (.int .i64 q.1.m) (.int .i64 q.1.pl) (.slice av12 nn12 cv12)
  have r7 := r6.turn1 t7 (by omega)
  have T7 := T6.trans t7 (fun i hi => .inr (by simp at hi; omega))
  have s7 := t7.size
  have Rs7 := Rs6.turn t7 (by simp; omega)
  have Sx7 := SitB.turn Sx6 t7 (by simp; omega)
  have Sy7 := SitB.turn Sy6 t7 (by simp; omega)
  clear Rs6 Lt6 Sx6 Sy6 T6 r6 t7 xl
  generalize hW7 : ((((((w6.setCell _ _).setCell _ _).setCell _ _).setCell _ _).setCell _ _).setCell _ _) = w7 at *
  clear hW7
  obtain ⟨Y, hY⟩ : ∃ Y : Array Value, Hid (Y = (itC ⟨6, ⟨#[]⟩, ⟨#[]⟩, 0, 0, 0, y.1, q.1, (t0.at_ : Int)⟩ (.slice av6 nn6 cv6) (.slice av12 nn12 cv12)).toArray) := ⟨_, rfl⟩
  have sY : Y.size = 19 := by rw [hY.out]; rfl
  have ldY := ld_row (X := Y) Lt7 (by rw [hY.out]) (n := m) hm19.out
  have one0 : Y.all (·.oneCell') = true := by rw [hY.out]; kernel_rfl
  have one : ∀ v ∈ Y.toList, v.oneCell' = true := fun v hv => Array.all_eq_true_iff_forall_mem.1 one0 v (by simpa using hv)
  have stY := st_at w.heap.size Y.toList 0 w7 _ Rs7 (by simp [sY]) one
  have TF := hid2 (putRow_turn w.heap.size Y.toList 0 w7)
  have BF := putRow_whole Rs7 (X := Y.toList) (by simp [sY])
  have ldF := ld_row (X := Y) BF rfl (n := m) (by simp [sY, hm19.out])
  have xl := Lt7.lt
  have pl := Rs7.lt
  have HT := hid2 T7
  have HR := hid2 r7
  have HSx := hid2 Sx7
  clear Sx7
  have HSy := hid2 Sy7
  clear Sy7
  clear Lt7 Rs7 T7 r7 BF one one0
  generalize hWF : putRow w7 w.heap.size 0 Y.toList = WF at *
  clear hWF
  go_wp2_with fail
  rw [ldY]
  simp only [Result.andThen_ok]
  go_wp2_with fail
  refine bodyPost_ret (v := .agg Y) (by simp [results, Tryz.results52, go_sem, *]) rfl (hO.out ⟨6, ⟨#[]⟩, ⟨#[]⟩, 0, 0, 0, y.1, q.1, (t0.at_ : Int)⟩ (q.2) _ _ (.slice av6 nn6 cv6) (.slice av12 nn12 cv12) (hpr3.out) ?_ (by rw [hY.out]) ⟨SitB.lower (SitB.turn HSx.out TF.out (by simp; omega)) (by omega), SitB.lower (SitB.turn HSy.out TF.out (by simp; omega)) (by omega), Nat.zero_le _, Nat.zero_le _⟩ ?_)
  · exact HT.out.trans TF.out (fun i hi => .inr (by simp at hi; omega))
  · exact HR.out.turn1 TF.out hL
end Go.Proofs.YtecdfnpbcabdnaaGreatDoor

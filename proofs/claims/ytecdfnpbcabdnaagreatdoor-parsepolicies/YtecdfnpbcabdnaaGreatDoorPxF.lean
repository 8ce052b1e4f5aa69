/- Package parse: atom, factor. -/
import Derived.Test.YtecdfnpbcabdnaaGreatDoorPxE
namespace Go.Proofs.YtecdfnpbcabdnaaGreatDoor
open Go.RowKit Go.Lib

theorem box_six {w : World} {g : Nat} {t : Tm} {u : Value} (h : Box w g (tmL t u)) : Six w g 0 t u := ⟨h.cell 0 _ rfl, h.cell 1 _ rfl, h.cell 2 _ rfl, h.cell 3 _ rfl, h.cell 4 _ rfl, h.cell 5 _ rfl⟩
theorem out_up {z : Nat} {w W w' : World} {rb tb lb : Nat} {c : Int} {o : Nat} {pr : Rs Tm} {e : Ending} (hT : Turn [rb] w W) (h : Out (VTm W.heap.size z) z W rb tb lb c o pr e w') :
    (∃ f, e = .panicked [fltE f] ∧ pr = .error f ∧ Turn [rb] w w') ∨ (∃ t u L', e = .returned (tmV t u) ∧ pr = .ok (t, L') ∧ Turn [rb] W w' ∧ SitB W.heap.size z w' t u ∧ Rea z w' rb tb lb c L' o) := by
  rcases hp : pr with f | y
  · obtain ⟨rfl, ht⟩ := Out.of_err hp h
    exact .inl ⟨f, rfl, rfl, tn hT ht⟩
  · obtain ⟨ht, v, rfl, ⟨u, rfl, hs⟩, hr'⟩ := Out.of_ok hp h
    exact .inr ⟨y.1, u, y.2, rfl, rfl, ht, hs, hr'⟩
set_option maxHeartbeats 4000000 in
set_option maxRecDepth 20000 in
theorem atom_num {z rb tb lb : Nat} {c : Int} {L : List Tk} {o : Nat} (hz : z ≤ 9223372036854775807) {X : Option Ps} (_HX : InC z rb tb lb c o X) {t0 : Tk} (hx : nxt c L = .ok t0) (hk : t0.kind = 2) (w : World) (hr : Rea z w rb tb lb c L o) :
    Calls Tryz.prog 87 #[.pointer (some ⟨rb, 0, none⟩)] w (Out (VTm w.heap.size z) z w rb tb lb c o (numberP c L)) := by
  obtain ⟨pr, hpr⟩ : ∃ pr, Hid (pr = numberP c L) := ⟨_, rfl⟩
  rw [← hpr.out]
  have hE : Hid (∀ f w', pr = .error f → Turn [rb] w w' → Out (VTm w.heap.size z) z w rb tb lb c o pr (.panicked [fltE f]) w') := fun f w' h ht => Out.mk_err h ht
  have hO : Hid (∀ t L' w' v u, pr = .ok (t, L') → Turn [rb] w w' → v = tmV t u → SitB w.heap.size z w' t u → Rea z w' rb tb lb c L' o → Out (VTm w.heap.size z) z w rb tb lb c o pr (.returned v) w') := fun t L' w' v u h ht hv hs hr' => Out.mk_ok h ht ⟨u, hv, hs⟩ hr'
  generalize Out (VTm w.heap.size z) z w rb tb lb c o pr = Post at *
  have hL := hr.lts
  have hne : w.heap.size ∉ [rb] := by simp; omega
  have hok := hr.tl.ok
  rw [← nxt_inv hx] at hok
  have Z0 := Box.new w zs6 33
  go_enter Tryz.func87, Tryz.ntmps87
  go_wp2_with fail
  have T0 := tnO (ob := .cells (zs6).toArray 33) (Turn.refl [rb] w)
  have r0 := hr.onO (ob := .cells (zs6).toArray 33)
  have Rs0 := Z0
  have zsz : w.heap.size < (w.alloc (.cells (zs6).toArray 33)).heap.size := by simp
  clear Z0
  generalize hW0 : w.alloc _ = w0 at *
  clear hW0
  clear hr
  refine Calls.mono (next_ok hx _ r0) ?_
  rintro e w1 ⟨rfl, b1⟩
  have t1 := Turn.of_below (S := [rb]) b1
  have r1 := r0.next b1
  have Rs1 := Rs0.turn t1 hne
  have T1 := tn T0 t1
  have s1 := t1.size
  clear Rs0 T0 r0 b1 t1
  go_wp2_with fail
  have t2 := tnO (ob := .cells ([.int .i64 2, .string t0.text, .int .i64 t0.n, .int .i64 (t0.at_ : Nat)]).toArray 47) (Turn.refl [rb] w1)
  have r2 := r1.onO (ob := .cells ([.int .i64 2, .string t0.text, .int .i64 t0.n, .int .i64 (t0.at_ : Nat)]).toArray 47)
  have Tk2 := Box.new w1 [.int .i64 2, .string t0.text, .int .i64 t0.n, .int .i64 (t0.at_ : Nat)] 47
  have hnTk : w1.heap.size ∉ [rb] := by simp; omega
  have hxTk : w1.heap.size < (w1.alloc (.cells ([.int .i64 2, .string t0.text, .int .i64 t0.n, .int .i64 (t0.at_ : Nat)]).toArray 47)).heap.size := by simp
  have Rs2 := Rs1.turn t2 hne
  have T2 := tn T1 t2
  have s2 := t2.size
  clear Rs1 T1 r1 t2
  generalize hW2 : w1.alloc _ = w2 at *
  clear hW2
  obtain ⟨x0, x1, x2, x3, y0, y1, y2, y3⟩ := Tk2.four
  have xl := Tk2.lt
  go_wp2_with fail
  clear x0 x1 x2 x3 y0 y1 y2 y3
  have HM := hid2 (numb_c hz _ r2)
  rw [← hpr.out] at HM
  refine Calls.mono HM.out ?_
  intro e w3 h3
  rcases out_up T2 h3 with ⟨f, rfl, hp, ht⟩ | ⟨t, u, L', rfl, hp2, t3, S3, r3⟩
  · go_wp2_with fail
    exact ⟨rfl, hE.out _ _ hp ht⟩
  obtain ⟨p0, p1, p2, p3, p4, p5, q0, q1, q2, q3, q4, q5⟩ := (Rs2.turn t3 hne).six
  have pl := (Rs2.turn t3 hne).lt
  have HT := hid2 (tn T2 t3)
  have HS := hid2 S3
  obtain ⟨av, cv, rfl, -, -⟩ := S3.parts.shape
  generalize hnn : t.parts.length = nn at *
  clear h3 t3 S3 HM
  simp only [tmV]
  go_wp2_with fail
  refine bodyPost_ret (v := tmV t (.slice av nn cv)) (by simp [results, Tryz.results87, go_sem, *]) rfl (hO.out t L' _ _ (.slice av nn cv) hp2 ?_ rfl ?_ ?_)
  · exact HT.out.trans (turn_six _ _ _ _ _ _ _ _) (fun i hi => .inr (by simp at hi; omega))
  · exact SitB.lower (SitB.turn HS.out (turn_six _ _ _ _ _ _ _ _) (by simp; omega)) (by omega)
  · exact r3.turn1 (turn_six _ _ _ _ _ _ _ _) hL
set_option maxHeartbeats 4000000 in
set_option maxRecDepth 20000 in
theorem atom_name {z rb tb lb : Nat} {c : Int} {L : List Tk} {o : Nat} (hz : z ≤ 9223372036854775807) {X : Option Ps} (_HX : InC z rb tb lb c o X) {t0 : Tk} (hx : nxt c L = .ok t0) (hk : t0.kind = 1) (w : World) (hr : Rea z w rb tb lb c L o) :
    Calls Tryz.prog 87 #[.pointer (some ⟨rb, 0, none⟩)] w (Out (VTm w.heap.size z) z w rb tb lb c o ((.ok (⟨2, t0.text, 0, 0, (t0.at_ : Int), []⟩, L.tail) : Rs Tm))) := by
  obtain ⟨pr, hpr⟩ : ∃ pr, Hid (pr = (.ok (⟨2, t0.text, 0, 0, (t0.at_ : Int), []⟩, L.tail) : Rs Tm)) := ⟨_, rfl⟩
  rw [← hpr.out]
  have hE : Hid (∀ f w', pr = .error f → Turn [rb] w w' → Out (VTm w.heap.size z) z w rb tb lb c o pr (.panicked [fltE f]) w') := fun f w' h ht => Out.mk_err h ht
  have hO : Hid (∀ t L' w' v u, pr = .ok (t, L') → Turn [rb] w w' → v = tmV t u → SitB w.heap.size z w' t u → Rea z w' rb tb lb c L' o → Out (VTm w.heap.size z) z w rb tb lb c o pr (.returned v) w') := fun t L' w' v u h ht hv hs hr' => Out.mk_ok h ht ⟨u, hv, hs⟩ hr'
  generalize Out (VTm w.heap.size z) z w rb tb lb c o pr = Post at *
  have hL := hr.lts
  have hne : w.heap.size ∉ [rb] := by simp; omega
  have hok := hr.tl.ok
  rw [← nxt_inv hx] at hok
  have hq : takeK c 1 L = .ok (t0, L.tail) := by unfold takeK; rw [hx]; exact if_pos hk
  have Z0 := Box.new w zs6 33
  go_enter Tryz.func87, Tryz.ntmps87
  go_wp2_with fail
  have T0 := tnO (ob := .cells (zs6).toArray 33) (Turn.refl [rb] w)
  have r0 := hr.onO (ob := .cells (zs6).toArray 33)
  have Rs0 := Z0
  have zsz : w.heap.size < (w.alloc (.cells (zs6).toArray 33)).heap.size := by simp
  clear Z0
  generalize hW0 : w.alloc _ = w0 at *
  clear hW0
  clear hr
  refine Calls.mono (next_ok hx _ r0) ?_
  rintro e w1 ⟨rfl, b1⟩
  have t1 := Turn.of_below (S := [rb]) b1
  have r1 := r0.next b1
  have Rs1 := Rs0.turn t1 hne
  have T1 := tn T0 t1
  have s1 := t1.size
  clear Rs0 T0 r0 b1 t1
  go_wp2_with fail
  have t2 := tnO (ob := .cells ([.int .i64 1, .string t0.text, .int .i64 t0.n, .int .i64 (t0.at_ : Nat)]).toArray 47) (Turn.refl [rb] w1)
  have r2 := r1.onO (ob := .cells ([.int .i64 1, .string t0.text, .int .i64 t0.n, .int .i64 (t0.at_ : Nat)]).toArray 47)
  have Tk2 := Box.new w1 [.int .i64 1, .string t0.text, .int .i64 t0.n, .int .i64 (t0.at_ : Nat)] 47
  have hnTk : w1.heap.size ∉ [rb] := by simp; omega
  have hxTk : w1.heap.size < (w1.alloc (.cells ([.int .i64 1, .string t0.text, .int .i64 t0.n, .int .i64 (t0.at_ : Nat)]).toArray 47)).heap.size := by simp
  have Rs2 := Rs1.turn t2 hne
  have T2 := tn T1 t2
  have s2 := t2.size
  clear Rs1 T1 r1 t2
  generalize hW2 : w1.alloc _ = w2 at *
  clear hW2
  obtain ⟨x0, x1, x2, x3, y0, y1, y2, y3⟩ := Tk2.four
  have xl := Tk2.lt
  go_wp2_with fail
  clear x0 x1 x2 x3 y0 y1 y2 y3
  refine Calls.mono (take_c2 1 (by decide) _ r2) ?_
  rintro e w3 h3
  obtain ⟨t3, _, rfl, rfl, r3⟩ := Out.of_ok hq h3
  have Rs3 := Rs2.turn t3 hne
  have Tk3 := Tk2.turn t3 hnTk
  have T3 := tn T2 t3
  have s3 := t3.size
  clear Rs2 Tk2 T2 r2 h3 t3
  simp only [tkW]
  obtain ⟨x0, x1, x2, x3, y0, y1, y2, y3⟩ := Tk3.four
  have xl := Tk3.lt
  obtain ⟨p0, p1, p2, p3, p4, p5, pf0, pf1, pf2, pf3, pf4, pf5⟩ := Rs3.six
  have pl := Rs3.lt
  have hg : w1.heap.size ≠ w.heap.size := by omega
  go_wp2_with fail
  refine bodyPost_ret (v := tmV (⟨2, t0.text, 0, 0, (t0.at_ : Int), []⟩) (.slice none 0 0)) (by simp [results, Tryz.results87, go_sem, *]) rfl (hO.out (⟨2, t0.text, 0, 0, (t0.at_ : Int), []⟩) (L.tail) _ _ (.slice none 0 0) (hpr.out) ?_ rfl ?_ ?_)
  · exact T3.trans (turn_six _ _ _ _ _ _ _ _) (fun i hi => .inr (by simp at hi; omega))
  · exact sitb_leaf (fit_of _ _ _ _ _ _ hz (by decide) (by decide) hok.x zero64 zero64 hok.a) rfl
  · exact r3.turn1 (turn_six _ _ _ _ _ _ _ _) hL
set_option maxHeartbeats 4000000 in
set_option maxRecDepth 20000 in
theorem atom_word {z rb tb lb : Nat} {c : Int} {L : List Tk} {o : Nat} (hz : z ≤ 9223372036854775807) {X : Option Ps} (HX : InC z rb tb lb c o X) {t0 : Tk} (hx : nxt c L = .ok t0) (hk : t0.kind = 6) (w : World) (hr : Rea z w rb tb lb c L o) :
    Calls Tryz.prog 87 #[.pointer (some ⟨rb, 0, none⟩)] w (Out (VTm w.heap.size z) z w rb tb lb c o (wordP c X t0 L.tail)) := by
  obtain ⟨pr, hpr⟩ : ∃ pr, Hid (pr = wordP c X t0 L.tail) := ⟨_, rfl⟩
  rw [← hpr.out]
  have hE : Hid (∀ f w', pr = .error f → Turn [rb] w w' → Out (VTm w.heap.size z) z w rb tb lb c o pr (.panicked [fltE f]) w') := fun f w' h ht => Out.mk_err h ht
  have hO : Hid (∀ t L' w' v u, pr = .ok (t, L') → Turn [rb] w w' → v = tmV t u → SitB w.heap.size z w' t u → Rea z w' rb tb lb c L' o → Out (VTm w.heap.size z) z w rb tb lb c o pr (.returned v) w') := fun t L' w' v u h ht hv hs hr' => Out.mk_ok h ht ⟨u, hv, hs⟩ hr'
  generalize Out (VTm w.heap.size z) z w rb tb lb c o pr = Post at *
  have hL := hr.lts
  have hne : w.heap.size ∉ [rb] := by simp; omega
  have hok := hr.tl.ok
  rw [← nxt_inv hx] at hok
  have hm : isT t0.text t0 = true := by unfold isT; rw [hk]; simp
  have Z0 := Box.new w zs6 33
  go_enter Tryz.func87, Tryz.ntmps87
  go_wp2_with fail
  have T0 := tnO (ob := .cells (zs6).toArray 33) (Turn.refl [rb] w)
  have r0 := hr.onO (ob := .cells (zs6).toArray 33)
  have Rs0 := Z0
  have zsz : w.heap.size < (w.alloc (.cells (zs6).toArray 33)).heap.size := by simp
  clear Z0
  generalize hW0 : w.alloc _ = w0 at *
  clear hW0
  clear hr
  refine Calls.mono (next_ok hx _ r0) ?_
  rintro e w1 ⟨rfl, b1⟩
  have t1 := Turn.of_below (S := [rb]) b1
  have r1 := r0.next b1
  have Rs1 := Rs0.turn t1 hne
  have T1 := tn T0 t1
  have s1 := t1.size
  clear Rs0 T0 r0 b1 t1
  go_wp2_with fail
  have t2 := tnO (ob := .cells ([.int .i64 6, .string t0.text, .int .i64 t0.n, .int .i64 (t0.at_ : Nat)]).toArray 47) (Turn.refl [rb] w1)
  have r2 := r1.onO (ob := .cells ([.int .i64 6, .string t0.text, .int .i64 t0.n, .int .i64 (t0.at_ : Nat)]).toArray 47)
  have Tk2 := Box.new w1 [.int .i64 6, .string t0.text, .int .i64 t0.n, .int .i64 (t0.at_ : Nat)] 47
  have hnTk : w1.heap.size ∉ [rb] := by simp; omega
  have hxTk : w1.heap.size < (w1.alloc (.cells ([.int .i64 6, .string t0.text, .int .i64 t0.n, .int .i64 (t0.at_ : Nat)]).toArray 47)).heap.size := by simp
  have Rs2 := Rs1.turn t2 hne
  have T2 := tn T1 t2
  have s2 := t2.size
  clear Rs1 T1 r1 t2
  generalize hW2 : w1.alloc _ = w2 at *
  clear hW2
  obtain ⟨x0, x1, x2, x3, y0, y1, y2, y3⟩ := Tk2.four
  have xl := Tk2.lt
  go_wp2_with fail
  clear x0 x1 x2 x3 y0 y1 y2 y3
  have HM := hid2 (word_c hz HX hx hm _ r2)
  rw [← hpr.out] at HM
  refine Calls.mono HM.out ?_
  intro e w3 h3
  rcases out_up T2 h3 with ⟨f, rfl, hp, ht⟩ | ⟨t, u, L', rfl, hp2, t3, S3, r3⟩
  · go_wp2_with fail
    exact ⟨rfl, hE.out _ _ hp ht⟩
  obtain ⟨p0, p1, p2, p3, p4, p5, q0, q1, q2, q3, q4, q5⟩ := (Rs2.turn t3 hne).six
  have pl := (Rs2.turn t3 hne).lt
  have HT := hid2 (tn T2 t3)
  have HS := hid2 S3
  obtain ⟨av, cv, rfl, -, -⟩ := S3.parts.shape
  generalize hnn : t.parts.length = nn at *
  clear h3 t3 S3 HM
  simp only [tmV]
  go_wp2_with fail
  refine bodyPost_ret (v := tmV t (.slice av nn cv)) (by simp [results, Tryz.results87, go_sem, *]) rfl (hO.out t L' _ _ (.slice av nn cv) hp2 ?_ rfl ?_ ?_)
  · exact HT.out.trans (turn_six _ _ _ _ _ _ _ _) (fun i hi => .inr (by simp at hi; omega))
  · exact SitB.lower (SitB.turn HS.out (turn_six _ _ _ _ _ _ _ _) (by simp; omega)) (by omega)
  · exact r3.turn1 (turn_six _ _ _ _ _ _ _ _) hL
set_option maxHeartbeats 4000000 in
set_option maxRecDepth 20000 in
theorem atom_br {z rb tb lb : Nat} {c : Int} {L : List Tk} {o : Nat} (_hz : z ≤ 9223372036854775807) {X : Option Ps} (HX : InC z rb tb lb c o X) {t0 : Tk} (hx : nxt c L = .ok t0) (h2 : t0.kind ≠ 2) (h1 : t0.kind ≠ 1) (h6 : t0.kind ≠ 6) (w : World) (hr : Rea z w rb tb lb c L o) :
    Calls Tryz.prog 87 #[.pointer (some ⟨rb, 0, none⟩)] w (Out (VTm w.heap.size z) z w rb tb lb c o (beginP c k_lp X L fun E L1 => bnd (E L1) fun y => closeP c k_rp y)) := by
  obtain ⟨pr, hpr⟩ : ∃ pr, Hid (pr = beginP c k_lp X L fun E L1 => bnd (E L1) fun y => closeP c k_rp y) := ⟨_, rfl⟩
  rw [← hpr.out]
  have hE : Hid (∀ f w', pr = .error f → Turn [rb] w w' → Out (VTm w.heap.size z) z w rb tb lb c o pr (.panicked [fltE f]) w') := fun f w' h ht => Out.mk_err h ht
  have hO : Hid (∀ t L' w' v u, pr = .ok (t, L') → Turn [rb] w w' → v = tmV t u → SitB w.heap.size z w' t u → Rea z w' rb tb lb c L' o → Out (VTm w.heap.size z) z w rb tb lb c o pr (.returned v) w') := fun t L' w' v u h ht hv hs hr' => Out.mk_ok h ht ⟨u, hv, hs⟩ hr'
  generalize Out (VTm w.heap.size z) z w rb tb lb c o pr = Post at *
  have hL := hr.lts
  have hne : w.heap.size ∉ [rb] := by simp; omega
  have hok := hr.tl.ok
  rw [← nxt_inv hx] at hok
  have e2 : (t0.kind == 2) = false := by simpa using h2
  have e1 : (t0.kind == 1) = false := by simpa using h1
  have e6 : (t0.kind == 6) = false := by simpa using h6
  have Z0 := Box.new w zs6 33
  go_enter Tryz.func87, Tryz.ntmps87
  go_wp2_with fail
  have T0 := tnO (ob := .cells (zs6).toArray 33) (Turn.refl [rb] w)
  have r0 := hr.onO (ob := .cells (zs6).toArray 33)
  have Rs0 := Z0
  have zsz : w.heap.size < (w.alloc (.cells (zs6).toArray 33)).heap.size := by simp
  clear Z0
  generalize hW0 : w.alloc _ = w0 at *
  clear hW0
  clear hr
  refine Calls.mono (next_ok hx _ r0) ?_
  rintro e w1 ⟨rfl, b1⟩
  have t1 := Turn.of_below (S := [rb]) b1
  have r1 := r0.next b1
  have Rs1 := Rs0.turn t1 hne
  have T1 := tn T0 t1
  have s1 := t1.size
  clear Rs0 T0 r0 b1 t1
  go_wp2_with fail
  have t2 := tnO (ob := .cells ([.int .i64 t0.kind, .string t0.text, .int .i64 t0.n, .int .i64 (t0.at_ : Nat)]).toArray 47) (Turn.refl [rb] w1)
  have r2 := r1.onO (ob := .cells ([.int .i64 t0.kind, .string t0.text, .int .i64 t0.n, .int .i64 (t0.at_ : Nat)]).toArray 47)
  have Tk2 := Box.new w1 [.int .i64 t0.kind, .string t0.text, .int .i64 t0.n, .int .i64 (t0.at_ : Nat)] 47
  have hnTk : w1.heap.size ∉ [rb] := by simp; omega
  have hxTk : w1.heap.size < (w1.alloc (.cells ([.int .i64 t0.kind, .string t0.text, .int .i64 t0.n, .int .i64 (t0.at_ : Nat)]).toArray 47)).heap.size := by simp
  have Rs2 := Rs1.turn t2 hne
  have T2 := tn T1 t2
  have s2 := t2.size
  clear Rs1 T1 r1 t2
  generalize hW2 : w1.alloc _ = w2 at *
  clear hW2
  obtain ⟨x0, x1, x2, x3, y0, y1, y2, y3⟩ := Tk2.four
  have xl := Tk2.lt
  go_wp2_with fail
  clear x0 x1 x2 x3 y0 y1 y2 y3
  refine Calls.mono (begin_c k_lp _ r2) ?_
  rintro e w3 h3
  rcases hy1 : mustS c k_lp L with f | y
  · obtain ⟨rfl, t3⟩ := beg_err hy1 h3
    go_wp2_with fail
    exact ⟨rfl, hE.out _ _ (by rw [hpr.out, beginP, hy1]; rfl) (tn T2 t3)⟩
  rcases X with _ | E
  · obtain ⟨rfl, t3⟩ := beg_deep hy1 (HX.no rfl) h3
    go_wp2_with fail
    exact ⟨rfl, hE.out _ _ (by rw [hpr.out, beginP, hy1]; rfl) (tn T2 t3)⟩
  obtain ⟨rfl, t3, r3⟩ := beg_ok hy1 (HX.yes E rfl).1 h3
  have Rs3 := Rs2.turn t3 hne
  have Tk3 := Tk2.turn t3 hnTk
  have T3 := tn T2 t3
  have s3 := t3.size
  clear Rs2 Tk2 T2 r2 h3 t3
  have hpr1 : Hid (pr = bnd (E y.2) fun y => closeP c k_rp y) := by show _ = _; rw [hpr.out, beginP, hy1]; rfl
  obtain ⟨ho64, HEx, hDec⟩ := HX.yes E rfl
  go_wp2_with fail
  refine Calls.mono (HEx _ _ r3) ?_
  rintro e w4 h4
  rcases hy2 : E y.2 with f | q
  · obtain ⟨rfl, t4⟩ := Out.of_err hy2 h4
    go_wp2_with fail
    exact ⟨rfl, hE.out _ _ (by rw [hpr1.out, hy2]; rfl) (tn T3 t4)⟩
  obtain ⟨t4, _, rfl, ⟨u4, rfl, S4⟩, r4⟩ := Out.of_ok hy2 h4
  have Rs4 := Rs3.turn t4 hne
  have Tk4 := Tk3.turn t4 hnTk
  have T4 := tn T3 t4
  have s4 := t4.size
  clear Rs3 Tk3 T3 r3 h4 t4
  have hpr2 : Hid (pr = bnd (mustS c k_rp q.2) fun a => .ok (q.1, a.2)) := by show _ = _; rw [hpr1.out, hy2]; rfl
  simp only [tmV]
  obtain ⟨av, cv, hu, -, -⟩ := S4.parts.shape
  subst hu
  generalize hnn : q.1.parts.length = nn at *
  go_wp2_with fail
  have t5 := tnO (ob := .cells ((tmL q.1 (.slice av nn cv))).toArray 33) (Turn.refl [rb] w4)
  have r5 := r4.onO (ob := .cells ((tmL q.1 (.slice av nn cv))).toArray 33)
  have Lt5 := Box.new w4 (tmL q.1 (.slice av nn cv)) 33
  have hnLt : w4.heap.size ∉ [rb] := by simp; omega
  have hxLt : w4.heap.size < (w4.alloc (.cells ((tmL q.1 (.slice av nn cv))).toArray 33)).heap.size := by simp
  have Rs5 := Rs4.turn t5 hne
  have Tk5 := Tk4.turn t5 hnTk
  have S5 := SitB.turn S4 t5 (by simp; omega)
  have T5 := tn T4 t5
  have s5 := t5.size
  clear Rs4 Tk4 S4 T4 r4 t5
  generalize hW5 : w4.alloc _ = w5 at *
  clear hW5
  refine Calls.mono (close_c k_rp _ r5) ?_
  rintro e w6 h6
  rcases hy3 : mustS c k_rp q.2 with f | d
  · obtain ⟨rfl, t6⟩ := Out.of_err hy3 h6
    go_wp2_with fail
    exact ⟨rfl, hE.out _ _ (by rw [hpr2.out, hy3]; rfl) (tn T5 t6)⟩
  obtain ⟨t6, _, rfl, rfl, r6⟩ := Out.of_ok hy3 h6
  have Rs6 := Rs5.turn t6 hne
  have Tk6 := Tk5.turn t6 hnTk
  have Lt6 := Lt5.turn t6 hnLt
  have S6 := SitB.turn S5 t6 (by simp; omega)
  have T6 := tn T5 t6
  have s6 := t6.size
  clear Rs5 Tk5 Lt5 S5 T5 r5 h6 t6
  have hpr3 : Hid (pr = .ok (q.1, d.2)) := by show _ = _; rw [hpr2.out, hy3]; rfl
  obtain ⟨p0, p1, p2, p3, p4, p5, pf0, pf1, pf2, pf3, pf4, pf5⟩ := Rs6.six
  have pl := Rs6.lt
  obtain ⟨x0, x1, x2, x3, x4, x5, xf0, xf1, xf2, xf3, xf4, xf5⟩ := Lt6.six
  have xl := Lt6.lt
  have hg : w4.heap.size ≠ w.heap.size := by omega
  have HS := hid2 S6
  clear S6
  go_wp2_with fail
  refine bodyPost_ret (v := tmV (q.1) (.slice av nn cv)) (by simp [results, Tryz.results87, go_sem, *]) rfl (hO.out (q.1) (d.2) _ _ (.slice av nn cv) (hpr3.out) ?_ rfl ?_ ?_)
  · exact T6.trans (turn_six _ _ _ _ _ _ _ _) (fun i hi => .inr (by simp at hi; omega))
  · exact SitB.lower (SitB.turn HS.out (turn_six _ _ _ _ _ _ _ _) (by simp; omega)) (by omega)
  · exact r6.turn1 (turn_six _ _ _ _ _ _ _ _) hL
set_option maxHeartbeats 1000000 in
theorem atom_no {z rb tb lb : Nat} {c : Int} {L : List Tk} {o : Nat} {f : Flt} (hx : nxt c L = .error f) (w : World) (hr : Rea z w rb tb lb c L o) :
    Calls Tryz.prog 87 #[.pointer (some ⟨rb, 0, none⟩)] w fun e w' => e = .panicked [fltE f] ∧ Below w.heap.size w w' := by
  have HN := hid2 (next_err hx _ (hr.onO (ob := .cells (zs6).toArray 33)))
  clear hr hx
  go_enter Tryz.func87, Tryz.ntmps87
  go_wp2_with fail
  refine Calls.mono HN.out ?_
  rintro e w1 ⟨rfl, b1⟩
  go_wp2_with fail
  exact ⟨rfl, rfl, below_on ((Below.refl _ _).alloc (Nat.le_refl _) _) b1 (by simp)⟩
theorem atom_c {z rb tb lb : Nat} {c : Int} {o : Nat} (hz : z ≤ 9223372036854775807) {X : Option Ps} (HX : InC z rb tb lb c o X) : ExC z rb tb lb c o 87 (atomP c X) := by
  intro L w hr
  unfold atomP
  rcases hx : nxt c L with f | t0
  · exact (atom_no hx w hr).mono fun e w' ⟨h1, h2⟩ => h1 ▸ Out.mk_err rfl (Turn.of_below h2)
  · rw [bnd_ok]
    by_cases h2 : t0.kind = 2
    · rw [if_pos h2]; exact atom_num hz HX hx h2 w hr
    · rw [if_neg h2]
      by_cases h1 : t0.kind = 1
      · rw [if_pos h1]; exact atom_name hz HX hx h1 w hr
      · rw [if_neg h1]
        by_cases h6 : t0.kind = 6
        · rw [if_pos h6]; exact atom_word hz HX hx h6 w hr
        · rw [if_neg h6]; exact atom_br hz HX hx h2 h1 h6 w hr
set_option maxHeartbeats 4000000 in
set_option maxRecDepth 20000 in
theorem fac_neg {z rb tb lb : Nat} {c : Int} {L : List Tk} {o : Nat} (hz : z ≤ 9223372036854775807) {A : Ps} (HA : ExC z rb tb lb c o 87 A) {t0 : Tk} (hx : nxt c L = .ok t0) (hm : isT k_sub t0 = true) (w : World) (hr : Rea z w rb tb lb c L o) :
    Calls Tryz.prog 61 #[.pointer (some ⟨rb, 0, none⟩)] w (Out (VTm w.heap.size z) z w rb tb lb c o (bnd (A L.tail) fun y => .ok (tm 13 t0.at_ [y.1], y.2))) := by
  obtain ⟨pr, hpr⟩ : ∃ pr, Hid (pr = bnd (A L.tail) fun y => .ok (tm 13 t0.at_ [y.1], y.2)) := ⟨_, rfl⟩
  rw [← hpr.out]
  have hE : Hid (∀ f w', pr = .error f → Turn [rb] w w' → Out (VTm w.heap.size z) z w rb tb lb c o pr (.panicked [fltE f]) w') := fun f w' h ht => Out.mk_err h ht
  have hO : Hid (∀ t L' w' v u, pr = .ok (t, L') → Turn [rb] w w' → v = tmV t u → SitB w.heap.size z w' t u → Rea z w' rb tb lb c L' o → Out (VTm w.heap.size z) z w rb tb lb c o pr (.returned v) w') := fun t L' w' v u h ht hv hs hr' => Out.mk_ok h ht ⟨u, hv, hs⟩ hr'
  generalize Out (VTm w.heap.size z) z w rb tb lb c o pr = Post at *
  have hL := hr.lts
  have hne : w.heap.size ∉ [rb] := by simp; omega
  have hok := hr.tl.ok
  rw [← nxt_inv hx] at hok
  have hm1 := mustS_of hx hm
  have Z0 := Box.new w zs6 33
  go_enter Tryz.func61, Tryz.ntmps61
  go_wp2_with fail
  have T0 := tnO (ob := .cells (zs6).toArray 33) (Turn.refl [rb] w)
  have r0 := hr.onO (ob := .cells (zs6).toArray 33)
  have Rs0 := Z0
  have zsz : w.heap.size < (w.alloc (.cells (zs6).toArray 33)).heap.size := by simp
  clear Z0
  generalize hW0 : w.alloc _ = w0 at *
  clear hW0
  clear hr
  have HJ := fun W h => is_ok (z := z) (rb := rb) (tb := tb) (lb := lb) (o := o) hx k_sub W h
  rw [hm] at HJ
  refine Calls.mono (HJ _ r0) ?_
  rintro e w1 ⟨rfl, b1⟩
  have t1 := Turn.of_below (S := [rb]) b1
  have r1 := r0.next b1
  have Rs1 := Rs0.turn t1 hne
  have T1 := tn T0 t1
  have s1 := t1.size
  clear Rs0 T0 r0 b1 t1
  go_wp2_with fail
  refine Calls.mono (must_c k_sub _ r1) ?_
  rintro e w2 h2
  obtain ⟨t2, _, rfl, rfl, r2⟩ := Out.of_ok hm1 h2
  have Rs2 := Rs1.turn t2 hne
  have T2 := tn T1 t2
  have s2 := t2.size
  clear Rs1 T1 r1 h2 t2
  go_wp2_with fail
  refine Calls.mono (HA _ _ r2) ?_
  rintro e w3 h3
  rcases hy1 : A L.tail with f | q
  · obtain ⟨rfl, t3⟩ := Out.of_err hy1 h3
    go_wp2_with fail
    exact ⟨rfl, hE.out _ _ (by rw [hpr.out, hy1]; rfl) (tn T2 t3)⟩
  obtain ⟨t3, _, rfl, ⟨u3, rfl, S3⟩, r3⟩ := Out.of_ok hy1 h3
  have Rs3 := Rs2.turn t3 hne
  have T3 := tn T2 t3
  have s3 := t3.size
  clear Rs2 T2 r2 h3 t3
  have hpr1 : Hid (pr = .ok (tm 13 t0.at_ [q.1], q.2)) := by show _ = _; rw [hpr.out, hy1]; rfl
  simp only [tmV]
  obtain ⟨av, cv, hu, -, -⟩ := S3.parts.shape
  subst hu
  generalize hnn : q.1.parts.length = nn at *
  go_wp2_with fail
  have t4 := tnO (ob := .cells ((tmL q.1 (.slice av nn cv))).toArray 33) (Turn.refl [rb] w3)
  have r4 := r3.onO (ob := .cells ((tmL q.1 (.slice av nn cv))).toArray 33)
  have Lt4 := Box.new w3 (tmL q.1 (.slice av nn cv)) 33
  have hnLt : w3.heap.size ∉ [rb] := by simp; omega
  have hxLt : w3.heap.size < (w3.alloc (.cells ((tmL q.1 (.slice av nn cv))).toArray 33)).heap.size := by simp
  have Rs4 := Rs3.turn t4 hne
  have S4 := SitB.turn S3 t4 (by simp; omega)
  have T4 := tn T3 t4
  have s4 := t4.size
  clear Rs3 S3 T3 r3 t4
  generalize hW4 : w3.alloc _ = w4 at *
  clear hW4
  refine Calls.mono (term_c _ _ _ _ _ _) ?_
  rintro e w5 ⟨rfl, b5⟩
  have t5 := Turn.of_below (S := [rb]) b5
  have r5 := r4.next b5
  have Rs5 := Rs4.turn t5 hne
  have Lt5 := Lt4.turn t5 hnLt
  have S5 := SitB.turn S4 t5 (by simp; omega)
  have T5 := tn T4 t5
  have s5 := t5.size
  clear Rs4 Lt4 S4 T4 r4 b5 t5
  obtain ⟨p0, p1, p2, p3, p4, p5, pf0, pf1, pf2, pf3, pf4, pf5⟩ := Rs5.six
  have pl := Rs5.lt
  have HS := hid2 S5
  have HB := hid2 Lt5
  clear S5
  have hg : w3.heap.size ≠ w.heap.size := by omega
  go_wp2_with fail
  refine bodyPost_ret (v := tmV (tm 13 t0.at_ [q.1]) (.slice (some ⟨w3.heap.size, 0, none⟩) 1 1)) (by simp [results, Tryz.results61, go_sem, *]) rfl (hO.out (tm 13 t0.at_ [q.1]) (q.2) _ _ (.slice (some ⟨w3.heap.size, 0, none⟩) 1 1) (hpr1.out) ?_ rfl ?_ ?_)
  · exact T5.trans (turn_six _ _ _ _ _ _ _ _) (fun i hi => .inr (by simp at hi; omega))
  · exact sitb_one (fit_of _ _ _ _ _ _ hz (by decide) (by decide) (Nat.zero_le _) zero64 zero64 hok.a) rfl (by simpa using HB.out.lt) (by omega) (box_six (HB.out.turn (turn_six _ _ _ _ _ _ _ _) (by simp; omega))) (SitB.lower (SitB.turn HS.out (turn_six _ _ _ _ _ _ _ _) (by simp; omega)) (by omega))
  · exact r5.turn1 (turn_six _ _ _ _ _ _ _ _) hL
set_option maxHeartbeats 4000000 in
set_option maxRecDepth 20000 in
theorem fac_not {z rb tb lb : Nat} {c : Int} {L : List Tk} {o : Nat} (hz : z ≤ 9223372036854775807) {A : Ps} (HA : ExC z rb tb lb c o 87 A) {t0 : Tk} (hx : nxt c L = .ok t0) (hn : isT k_sub t0 = false) (hm : isT k_not t0 = true) (w : World) (hr : Rea z w rb tb lb c L o) :
    Calls Tryz.prog 61 #[.pointer (some ⟨rb, 0, none⟩)] w (Out (VTm w.heap.size z) z w rb tb lb c o (bnd (A L.tail) fun y => .ok (tm 14 t0.at_ [y.1], y.2))) := by
  obtain ⟨pr, hpr⟩ : ∃ pr, Hid (pr = bnd (A L.tail) fun y => .ok (tm 14 t0.at_ [y.1], y.2)) := ⟨_, rfl⟩
  rw [← hpr.out]
  have hE : Hid (∀ f w', pr = .error f → Turn [rb] w w' → Out (VTm w.heap.size z) z w rb tb lb c o pr (.panicked [fltE f]) w') := fun f w' h ht => Out.mk_err h ht
  have hO : Hid (∀ t L' w' v u, pr = .ok (t, L') → Turn [rb] w w' → v = tmV t u → SitB w.heap.size z w' t u → Rea z w' rb tb lb c L' o → Out (VTm w.heap.size z) z w rb tb lb c o pr (.returned v) w') := fun t L' w' v u h ht hv hs hr' => Out.mk_ok h ht ⟨u, hv, hs⟩ hr'
  generalize Out (VTm w.heap.size z) z w rb tb lb c o pr = Post at *
  have hL := hr.lts
  have hne : w.heap.size ∉ [rb] := by simp; omega
  have hok := hr.tl.ok
  rw [← nxt_inv hx] at hok
  have hm1 := mustS_of hx hm
  have Z0 := Box.new w zs6 33
  go_enter Tryz.func61, Tryz.ntmps61
  go_wp2_with fail
  have T0 := tnO (ob := .cells (zs6).toArray 33) (Turn.refl [rb] w)
  have r0 := hr.onO (ob := .cells (zs6).toArray 33)
  have Rs0 := Z0
  have zsz : w.heap.size < (w.alloc (.cells (zs6).toArray 33)).heap.size := by simp
  clear Z0
  generalize hW0 : w.alloc _ = w0 at *
  clear hW0
  clear hr
  have HI := fun W h => is_ok (z := z) (rb := rb) (tb := tb) (lb := lb) (o := o) hx k_sub W h
  rw [hn] at HI
  refine Calls.mono (HI _ r0) ?_
  rintro e w1 ⟨rfl, b1⟩
  have t1 := Turn.of_below (S := [rb]) b1
  have r1 := r0.next b1
  have Rs1 := Rs0.turn t1 hne
  have T1 := tn T0 t1
  have s1 := t1.size
  clear Rs0 T0 r0 b1 t1
  go_wp2_with fail
  have HJ := fun W h => is_ok (z := z) (rb := rb) (tb := tb) (lb := lb) (o := o) hx k_not W h
  rw [hm] at HJ
  refine Calls.mono (HJ _ r1) ?_
  rintro e w2 ⟨rfl, b2⟩
  have t2 := Turn.of_below (S := [rb]) b2
  have r2 := r1.next b2
  have Rs2 := Rs1.turn t2 hne
  have T2 := tn T1 t2
  have s2 := t2.size
  clear Rs1 T1 r1 b2 t2
  go_wp2_with fail
  refine Calls.mono (must_c k_not _ r2) ?_
  rintro e w3 h3
  obtain ⟨t3, _, rfl, rfl, r3⟩ := Out.of_ok hm1 h3
  have Rs3 := Rs2.turn t3 hne
  have T3 := tn T2 t3
  have s3 := t3.size
  clear Rs2 T2 r2 h3 t3
  go_wp2_with fail
  refine Calls.mono (HA _ _ r3) ?_
  rintro e w4 h4
  rcases hy1 : A L.tail with f | q
  · obtain ⟨rfl, t4⟩ := Out.of_err hy1 h4
    go_wp2_with fail
    exact ⟨rfl, hE.out _ _ (by rw [hpr.out, hy1]; rfl) (tn T3 t4)⟩
  obtain ⟨t4, _, rfl, ⟨u4, rfl, S4⟩, r4⟩ := Out.of_ok hy1 h4
  have Rs4 := Rs3.turn t4 hne
  have T4 := tn T3 t4
  have s4 := t4.size
  clear Rs3 T3 r3 h4 t4
  have hpr1 : Hid (pr = .ok (tm 14 t0.at_ [q.1], q.2)) := by show _ = _; rw [hpr.out, hy1]; rfl
  simp only [tmV]
  obtain ⟨av, cv, hu, -, -⟩ := S4.parts.shape
  subst hu
  generalize hnn : q.1.parts.length = nn at *
  go_wp2_with fail
  have t5 := tnO (ob := .cells ((tmL q.1 (.slice av nn cv))).toArray 33) (Turn.refl [rb] w4)
  have r5 := r4.onO (ob := .cells ((tmL q.1 (.slice av nn cv))).toArray 33)
  have Lt5 := Box.new w4 (tmL q.1 (.slice av nn cv)) 33
  have hnLt : w4.heap.size ∉ [rb] := by simp; omega
  have hxLt : w4.heap.size < (w4.alloc (.cells ((tmL q.1 (.slice av nn cv))).toArray 33)).heap.size := by simp
  have Rs5 := Rs4.turn t5 hne
  have S5 := SitB.turn S4 t5 (by simp; omega)
  have T5 := tn T4 t5
  have s5 := t5.size
  clear Rs4 S4 T4 r4 t5
  generalize hW5 : w4.alloc _ = w5 at *
  clear hW5
  refine Calls.mono (term_c _ _ _ _ _ _) ?_
  rintro e w6 ⟨rfl, b6⟩
  have t6 := Turn.of_below (S := [rb]) b6
  have r6 := r5.next b6
  have Rs6 := Rs5.turn t6 hne
  have Lt6 := Lt5.turn t6 hnLt
  have S6 := SitB.turn S5 t6 (by simp; omega)
  have T6 := tn T5 t6
  have s6 := t6.size
  clear Rs5 Lt5 S5 T5 r5 b6 t6
  obtain ⟨p0, p1, p2, p3, p4, p5, pf0, pf1, pf2, pf3, pf4, pf5⟩ := Rs6.six
  have pl := Rs6.lt
  have HS := hid2 S6
  have HB := hid2 Lt6
  clear S6
  have hg : w4.heap.size ≠ w.heap.size := by omega
  go_wp2_with fail
  refine bodyPost_ret (v := tmV (tm 14 t0.at_ [q.1]) (.slice (some ⟨w4.heap.size, 0, none⟩) 1 1)) (by simp [results, Tryz.results61, go_sem, *]) rfl (hO.out (tm 14 t0.at_ [q.1]) (q.2) _ _ (.slice (some ⟨w4.heap.size, 0, none⟩) 1 1) (hpr1.out) ?_ rfl ?_ ?_)
  · exact T6.trans (turn_six _ _ _ _ _ _ _ _) (fun i hi => .inr (by simp at hi; omega))
  · exact sitb_one (fit_of _ _ _ _ _ _ hz (by decide) (by decide) (Nat.zero_le _) zero64 zero64 hok.a) rfl (by simpa using HB.out.lt) (by omega) (box_six (HB.out.turn (turn_six _ _ _ _ _ _ _ _) (by simp; omega))) (SitB.lower (SitB.turn HS.out (turn_six _ _ _ _ _ _ _ _) (by simp; omega)) (by omega))
  · exact r6.turn1 (turn_six _ _ _ _ _ _ _ _) hL
set_option maxHeartbeats 4000000 in
set_option maxRecDepth 20000 in
theorem fac_at {z rb tb lb : Nat} {c : Int} {L : List Tk} {o : Nat} (_hz : z ≤ 9223372036854775807) {A : Ps} (HA : ExC z rb tb lb c o 87 A) {t0 : Tk} (hx : nxt c L = .ok t0) (hn : isT k_sub t0 = false) (hm : isT k_not t0 = false) (w : World) (hr : Rea z w rb tb lb c L o) :
    Calls Tryz.prog 61 #[.pointer (some ⟨rb, 0, none⟩)] w (Out (VTm w.heap.size z) z w rb tb lb c o (A L)) := by
  obtain ⟨pr, hpr⟩ : ∃ pr, Hid (pr = A L) := ⟨_, rfl⟩
  rw [← hpr.out]
  have hE : Hid (∀ f w', pr = .error f → Turn [rb] w w' → Out (VTm w.heap.size z) z w rb tb lb c o pr (.panicked [fltE f]) w') := fun f w' h ht => Out.mk_err h ht
  have hO : Hid (∀ t L' w' v u, pr = .ok (t, L') → Turn [rb] w w' → v = tmV t u → SitB w.heap.size z w' t u → Rea z w' rb tb lb c L' o → Out (VTm w.heap.size z) z w rb tb lb c o pr (.returned v) w') := fun t L' w' v u h ht hv hs hr' => Out.mk_ok h ht ⟨u, hv, hs⟩ hr'
  generalize Out (VTm w.heap.size z) z w rb tb lb c o pr = Post at *
  have hL := hr.lts
  have hne : w.heap.size ∉ [rb] := by simp; omega
  have hok := hr.tl.ok
  rw [← nxt_inv hx] at hok
  have Z0 := Box.new w zs6 33
  go_enter Tryz.func61, Tryz.ntmps61
  go_wp2_with fail
  have T0 := tnO (ob := .cells (zs6).toArray 33) (Turn.refl [rb] w)
  have r0 := hr.onO (ob := .cells (zs6).toArray 33)
  have Rs0 := Z0
  have zsz : w.heap.size < (w.alloc (.cells (zs6).toArray 33)).heap.size := by simp
  clear Z0
  generalize hW0 : w.alloc _ = w0 at *
  clear hW0
  clear hr
  have HI := fun W h => is_ok (z := z) (rb := rb) (tb := tb) (lb := lb) (o := o) hx k_sub W h
  rw [hn] at HI
  refine Calls.mono (HI _ r0) ?_
  rintro e w1 ⟨rfl, b1⟩
  have t1 := Turn.of_below (S := [rb]) b1
  have r1 := r0.next b1
  have Rs1 := Rs0.turn t1 hne
  have T1 := tn T0 t1
  have s1 := t1.size
  clear Rs0 T0 r0 b1 t1
  go_wp2_with fail
  have HJ := fun W h => is_ok (z := z) (rb := rb) (tb := tb) (lb := lb) (o := o) hx k_not W h
  rw [hm] at HJ
  refine Calls.mono (HJ _ r1) ?_
  rintro e w2 ⟨rfl, b2⟩
  have t2 := Turn.of_below (S := [rb]) b2
  have r2 := r1.next b2
  have Rs2 := Rs1.turn t2 hne
  have T2 := tn T1 t2
  have s2 := t2.size
  clear Rs1 T1 r1 b2 t2
  go_wp2_with fail
  have HM := hid2 (HA _ _ r2)
  rw [← hpr.out] at HM
  refine Calls.mono HM.out ?_
  intro e w3 h3
  rcases out_up T2 h3 with ⟨f, rfl, hp, ht⟩ | ⟨t, u, L', rfl, hp2, t3, S3, r3⟩
  · go_wp2_with fail
    exact ⟨rfl, hE.out _ _ hp ht⟩
  obtain ⟨p0, p1, p2, p3, p4, p5, q0, q1, q2, q3, q4, q5⟩ := (Rs2.turn t3 hne).six
  have pl := (Rs2.turn t3 hne).lt
  have HT := hid2 (tn T2 t3)
  have HS := hid2 S3
  obtain ⟨av, cv, rfl, -, -⟩ := S3.parts.shape
  generalize hnn : t.parts.length = nn at *
  clear h3 t3 S3 HM
  simp only [tmV]
  go_wp2_with fail
  refine bodyPost_ret (v := tmV t (.slice av nn cv)) (by simp [results, Tryz.results61, go_sem, *]) rfl (hO.out t L' _ _ (.slice av nn cv) hp2 ?_ rfl ?_ ?_)
  · exact HT.out.trans (turn_six _ _ _ _ _ _ _ _) (fun i hi => .inr (by simp at hi; omega))
  · exact SitB.lower (SitB.turn HS.out (turn_six _ _ _ _ _ _ _ _) (by simp; omega)) (by omega)
  · exact r3.turn1 (turn_six _ _ _ _ _ _ _ _) hL
set_option maxHeartbeats 1000000 in
theorem fac_no {z rb tb lb : Nat} {c : Int} {L : List Tk} {o : Nat} {f : Flt} (hx : nxt c L = .error f) (w : World) (hr : Rea z w rb tb lb c L o) :
    Calls Tryz.prog 61 #[.pointer (some ⟨rb, 0, none⟩)] w fun e w' => e = .panicked [fltE f] ∧ Below w.heap.size w w' := by
  have HN := hid2 (is_err hx k_sub _ (hr.onO (ob := .cells (zs6).toArray 33)))
  clear hr hx
  go_enter Tryz.func61, Tryz.ntmps61
  go_wp2_with fail
  refine Calls.mono HN.out ?_
  rintro e w1 ⟨rfl, b1⟩
  go_wp2_with fail
  exact ⟨rfl, rfl, below_on ((Below.refl _ _).alloc (Nat.le_refl _) _) b1 (by simp)⟩
theorem fac_c {z rb tb lb : Nat} {c : Int} {o : Nat} (hz : z ≤ 9223372036854775807) {A : Ps} (HA : ExC z rb tb lb c o 87 A) : ExC z rb tb lb c o 61 (facP c A) := by
  intro L w hr
  unfold facP
  rcases hx : nxt c L with f | t0
  · exact (fac_no hx w hr).mono fun e w' ⟨h1, h2⟩ => h1 ▸ Out.mk_err rfl (Turn.of_below h2)
  · rw [bnd_ok]
    cases h1 : isT k_sub t0 with
    | true => rw [if_pos rfl]; exact fac_neg hz HA hx h1 w hr
    | false =>
      rw [if_neg (by simp)]
      cases h2 : isT k_not t0 with
      | true => rw [if_pos rfl]; exact fac_not hz HA hx h1 h2 w hr
      | false => rw [if_neg (by simp)]; exact fac_at hz HA hx h1 h2 w hr
end Go.Proofs.YtecdfnpbcabdnaaGreatDoor

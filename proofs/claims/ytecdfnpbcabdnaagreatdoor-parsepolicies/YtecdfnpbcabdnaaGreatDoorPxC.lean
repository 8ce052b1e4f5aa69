/- Package parse: cron, window. -/
import Derived.Test.YtecdfnpbcabdnaaGreatDoorPxB
namespace Go.Proofs.YtecdfnpbcabdnaaGreatDoor
open Go.RowKit Go.Lib

/-- What a method reads, by p. -/
def ExC (z rb tb lb : Nat) (c : Int) (o fn : Nat) (p : Ps) : Prop := ∀ L w, Rea z w rb tb lb c L o → Calls Tryz.prog fn #[.pointer (some ⟨rb, 0, none⟩)] w (Out (VTm w.heap.size z) z w rb tb lb c o (p L))
/-- What is read behind a bracket that opens. -/
structure InC (z rb tb lb : Nat) (c : Int) (o : Nat) (X : Option Ps) : Prop where
  no : X = none → o = 64
  yes : ∀ E, X = some E → o ≠ 64 ∧ ExC z rb tb lb c (o + 1) 21 E ∧ Dec E
theorem beg_err {x : ByteArray} {z : Nat} {w : World} {rb tb lb : Nat} {c : Int} {o : Nat} {L : List Tk} {e : Ending} {w' : World} {f : Flt} (hx : mustS c x L = .error f) (h : BegP x z w rb tb lb c o L e w') : e = .panicked [fltE f] ∧ Turn [rb] w w' := by
  unfold BegP at h
  rw [hx] at h
  exact ⟨h.2, h.1⟩
theorem beg_deep {x : ByteArray} {z : Nat} {w : World} {rb tb lb : Nat} {c : Int} {o : Nat} {L : List Tk} {e : Ending} {w' : World} {y : Nat × List Tk} (hx : mustS c x L = .ok y) (ho : o = 64) (h : BegP x z w rb tb lb c o L e w') : e = .panicked [fltE (y.1, 15)] ∧ Turn [rb] w w' := by
  unfold BegP at h
  rw [hx] at h
  have h2 : (if o = 64 then _ else _) := h.2
  rw [if_pos ho] at h2
  exact ⟨h2, h.1⟩
theorem beg_ok {x : ByteArray} {z : Nat} {w : World} {rb tb lb : Nat} {c : Int} {o : Nat} {L : List Tk} {e : Ending} {w' : World} {y : Nat × List Tk} (hx : mustS c x L = .ok y) (ho : o ≠ 64) (h : BegP x z w rb tb lb c o L e w') : e = .returned (.tuple #[]) ∧ Turn [rb] w w' ∧ Rea z w' rb tb lb c y.2 (o + 1) := by
  unfold BegP at h
  rw [hx] at h
  have h2 : (if o = 64 then _ else _) := h.2
  rw [if_neg ho] at h2
  exact ⟨h2.1, h.1, h2.2⟩
theorem tn {a b d : World} {rb : Nat} (h : Turn [rb] a b) (k : Turn [rb] b d) : Turn [rb] a d := h.trans k (fun _ hi => .inl hi)
theorem tnA {a b : World} {rb : Nat} {ob : Obj} (h : Turn [rb] (a.alloc ob) b) : Turn [rb] a b := (Turn.of_below ((Below.refl _ _).alloc (Nat.le_refl _) _)).trans h (fun _ hi => .inl hi)
theorem tnO {a b : World} {rb : Nat} {ob : Obj} (h : Turn [rb] a b) : Turn [rb] a (b.alloc ob) := h.andBelow ((Below.refl _ _).alloc (Nat.le_refl _) _)
theorem Box.onO {b : World} {g : Nat} {vs : List Value} {ob : Obj} (h : Box b g vs) : Box (b.alloc ob) g vs := h.next ((Below.refl _ _).alloc (Nat.le_refl _) _)
theorem Rea.onO {z : Nat} {w : World} {rb tb lb : Nat} {c : Int} {L : List Tk} {o : Nat} {ob : Obj} (h : Rea z w rb tb lb c L o) : Rea z (w.alloc ob) rb tb lb c L o := h.next ((Below.refl _ _).alloc (Nat.le_refl _) _)
theorem k64 {k : Int} (h1 : 0 ≤ k) (h2 : k ≤ 100) : In64 k := by unfold In64; omega
theorem fit_of {z : Nat} (k : Int) (x : ByteArray) (n m : Int) (a : Nat) (ps : List Tm) (hz : z ≤ 9223372036854775807) (h1 : 0 ≤ k) (h2 : k ≤ 100) (hx : x.size ≤ z) (hn : In64 n) (hm : In64 m) (ha : a ≤ z) : Fit z ⟨k, x, n, m, (a : Int), ps⟩ :=
  ⟨k64 h1 h2, hn, hm, by show In64 (a : Int); unfold In64; omega, hx⟩
set_option maxHeartbeats 4000000 in
set_option maxRecDepth 20000 in
theorem cron_c {z rb tb lb : Nat} {c : Int} {L : List Tk} {o : Nat} (hz : z ≤ 9223372036854775807) {X : Option Ps} (HX : InC z rb tb lb c o X) {t0 : Tk} (hx : nxt c L = .ok t0) (hm : isT k_cron t0 = true) (w : World) (hr : Rea z w rb tb lb c L o) :
    Calls Tryz.prog 128 #[.pointer (some ⟨rb, 0, none⟩)] w (Out (VTm w.heap.size z) z w rb tb lb c o (cronP c X t0.at_ L.tail)) := by
  obtain ⟨pr, hpr⟩ : ∃ pr, Hid (pr = cronP c X t0.at_ L.tail) := ⟨_, rfl⟩
  rw [← hpr.out]
  have hE : Hid (∀ f w', pr = .error f → Turn [rb] w w' → Out (VTm w.heap.size z) z w rb tb lb c o pr (.panicked [fltE f]) w') := fun f w' h ht => Out.mk_err h ht
  have hO : Hid (∀ t L' w' v u, pr = .ok (t, L') → Turn [rb] w w' → v = tmV t u → SitB w.heap.size z w' t u → Rea z w' rb tb lb c L' o → Out (VTm w.heap.size z) z w rb tb lb c o pr (.returned v) w') := fun t L' w' v u h ht hv hs hr' => Out.mk_ok h ht ⟨u, hv, hs⟩ hr'
  generalize Out (VTm w.heap.size z) z w rb tb lb c o pr = Post at *
  have hL := hr.lts
  have hne : w.heap.size ∉ [rb] := by simp; omega
  have hok := hr.tl.ok
  rw [← nxt_inv hx] at hok
  have hm1 := mustS_of hx hm
  have g1 := fld1
  have Z0 := Box.new w zs6 33
  go_enter Tryz.func128, Tryz.ntmps128
  go_wp2_with fail
  have T0 := tnO (ob := .cells (zs6).toArray 33) (Turn.refl [rb] w)
  have r0 := hr.onO (ob := .cells (zs6).toArray 33)
  have Rs0 := Z0
  have zsz : w.heap.size < (w.alloc (.cells (zs6).toArray 33)).heap.size := by simp
  clear Z0
  generalize hW0 : w.alloc _ = w0 at *
  clear hW0
  clear hr
  refine Calls.mono (must_c k_cron _ r0) ?_
  rintro e w1 h1
  obtain ⟨t1, _, rfl, rfl, r1⟩ := Out.of_ok hm1 h1
  have Rs1 := Rs0.turn t1 hne
  have T1 := tn T0 t1
  have s1 := t1.size
  clear Rs0 T0 r0 h1 t1
  go_wp2_with fail
  refine Calls.mono (term_c _ _ _ _ _ _) ?_
  rintro e w2 ⟨rfl, b2⟩
  have t2 := Turn.of_below (S := [rb]) b2
  have r2 := r1.next b2
  have Rs2 := Rs1.turn t2 hne
  have T2 := tn T1 t2
  have s2 := t2.size
  clear Rs1 T1 r1 b2 t2
  go_wp2_with fail
  have t3 := tnO (ob := .cells ([.int .i64 6, .string ⟨#[]⟩, .int .i64 0, .int .i64 0, .int .i64 (t0.at_ : Nat), .slice none 0 0]).toArray 33) (Turn.refl [rb] w2)
  have r3 := r2.onO (ob := .cells ([.int .i64 6, .string ⟨#[]⟩, .int .i64 0, .int .i64 0, .int .i64 (t0.at_ : Nat), .slice none 0 0]).toArray 33)
  have Lt3 := Box.new w2 [.int .i64 6, .string ⟨#[]⟩, .int .i64 0, .int .i64 0, .int .i64 (t0.at_ : Nat), .slice none 0 0] 33
  have hnLt : w2.heap.size ∉ [rb] := by simp; omega
  have hxLt : w2.heap.size < (w2.alloc (.cells ([.int .i64 6, .string ⟨#[]⟩, .int .i64 0, .int .i64 0, .int .i64 (t0.at_ : Nat), .slice none 0 0]).toArray 33)).heap.size := by simp
  have Rs3 := Rs2.turn t3 hne
  have T3 := tn T2 t3
  have s3 := t3.size
  clear Rs2 T2 r2 t3
  generalize hW3 : w2.alloc _ = w3 at *
  clear hW3
  rw [cronP] at hpr
  refine Calls.mono (begin_c k_lp _ r3) ?_
  rintro e w4 h4
  rcases hy1 : mustS c k_lp L.tail with f | y
  · obtain ⟨rfl, t4⟩ := beg_err hy1 h4
    go_wp2_with fail
    exact ⟨rfl, hE.out _ _ (by rw [hpr.out, beginP, hy1]; rfl) (tn T3 t4)⟩
  rcases X with _ | E
  · obtain ⟨rfl, t4⟩ := beg_deep hy1 (HX.no rfl) h4
    go_wp2_with fail
    exact ⟨rfl, hE.out _ _ (by rw [hpr.out, beginP, hy1]; rfl) (tn T3 t4)⟩
  obtain ⟨rfl, t4, r4⟩ := beg_ok hy1 (HX.yes E rfl).1 h4
  have Rs4 := Rs3.turn t4 hne
  have Lt4 := Lt3.turn t4 hnLt
  have T4 := tn T3 t4
  have s4 := t4.size
  clear Rs3 Lt3 T3 r3 h4 t4
  have hpr1 : Hid (pr = bnd (takeK c 4 y.2) fun t => closeP c k_rp (⟨6, t.1.text, 0, 0, (t0.at_ : Int), []⟩, t.2)) := by show _ = _; rw [hpr.out, beginP, hy1]; rfl
  have htl := r4.tl
  go_wp2_with fail
  refine Calls.mono (take_c2 4 (by decide) _ r4) ?_
  rintro e w5 h5
  rcases hy2 : takeK c 4 y.2 with f | q
  · obtain ⟨rfl, t5⟩ := Out.of_err hy2 h5
    go_wp2_with fail
    exact ⟨rfl, hE.out _ _ (by rw [hpr1.out, hy2]; rfl) (tn T4 t5)⟩
  obtain ⟨t5, _, rfl, rfl, r5⟩ := Out.of_ok hy2 h5
  have Rs5 := Rs4.turn t5 hne
  have Lt5 := Lt4.turn t5 hnLt
  have T5 := tn T4 t5
  have s5 := t5.size
  clear Rs4 Lt4 T4 r4 h5 t5
  have hpr2 : Hid (pr = closeP c k_rp (⟨6, q.1.text, 0, 0, (t0.at_ : Int), []⟩, q.2)) := by show _ = _; rw [hpr1.out, hy2]; rfl
  simp only [tkW]
  obtain ⟨x0, x1, x2, x3, x4, x5, xf0, xf1, xf2, xf3, xf4, xf5⟩ := Lt5.six
  have xl := Lt5.lt
  go_wp2_with fail
  clear x0 x1 x2 x3 x4 x5 xf0 xf1 xf2 xf3 xf4 xf5
  have t6 := turn_set w5 (w2.heap.size) 1 (.string q.1.text)
  have r6 := r5.turn1 t6 (by omega)
  have T6 := T5.andSet ⟨w2.heap.size, 1, none⟩ (.string q.1.text) (.inr (by show w.heap.size ≤ w2.heap.size; omega))
  have s6 := t6.size
  have Rs6 := Rs5.other (q := w2.heap.size) (j := 1) (v := .string q.1.text) (by omega)
  have Lt6 := Lt5.set 1 (by simp) (.string q.1.text)
  clear Rs5 Lt5 T5 r5 t6
  generalize hW6 : w5.setCell _ _ = w6 at *
  clear hW6
  rw [closeP] at hpr2
  refine Calls.mono (close_c k_rp _ r6) ?_
  rintro e w7 h7
  rcases hy3 : mustS c k_rp q.2 with f | d
  · obtain ⟨rfl, t7⟩ := Out.of_err hy3 h7
    go_wp2_with fail
    exact ⟨rfl, hE.out _ _ (by rw [hpr2.out, hy3]; rfl) (tn T6 t7)⟩
  obtain ⟨t7, _, rfl, rfl, r7⟩ := Out.of_ok hy3 h7
  have Rs7 := Rs6.turn t7 hne
  have Lt7 := Lt6.turn t7 hnLt
  have T7 := tn T6 t7
  have s7 := t7.size
  clear Rs6 Lt6 T6 r6 h7 t7
  have hpr3 : Hid (pr = .ok (⟨6, q.1.text, 0, 0, (t0.at_ : Int), []⟩, d.2)) := by show _ = _; rw [hpr2.out, hy3]; rfl
  obtain ⟨p0, p1, p2, p3, p4, p5, pf0, pf1, pf2, pf3, pf4, pf5⟩ := Rs7.six
  have pl := Rs7.lt
  obtain ⟨x0, x1, x2, x3, x4, x5, xf0, xf1, xf2, xf3, xf4, xf5⟩ := Lt7.six
  have xl := Lt7.lt
  have hg : w2.heap.size ≠ w.heap.size := by omega
  go_wp2_with fail
  refine bodyPost_ret (v := tmV (⟨6, q.1.text, 0, 0, (t0.at_ : Int), []⟩) (.slice none 0 0)) (by simp [results, Tryz.results128, go_sem, *]) rfl (hO.out (⟨6, q.1.text, 0, 0, (t0.at_ : Int), []⟩) (d.2) _ _ (.slice none 0 0) (hpr3.out) ?_ rfl ?_ ?_)
  · exact T7.trans (turn_six _ _ _ _ _ _ _ _) (fun i hi => .inr (by simp at hi; omega))
  · exact sitb_leaf (fit_of _ _ _ _ _ _ hz (by decide) (by decide) (takeK_tl htl hy2 (by decide)).1.x zero64 zero64 hok.a) rfl
  · exact r7.turn1 (turn_six _ _ _ _ _ _ _ _) hL
theorem ba_neL {a : ByteArray} (l : List UInt8) (h : ¬ a = ⟨l.toArray⟩) : (a.toList == l) = false := by
  have := ba_ne h
  rw [Lib.toList_data ⟨l.toArray⟩] at this
  exact this
theorem winK_in (x : ByteArray) : winK x = 0 ∨ (7 ≤ winK x ∧ winK x ≤ 12) := by
  unfold winK
  repeat' split
  all_goals first | (left; rfl) | (right; exact ⟨by decide, by decide⟩)
set_option maxHeartbeats 2000000 in
theorem windowKind_c (x : ByteArray) (w : World) : Calls Tryz.prog 146 #[.string x] w fun e w' => e = .returned (.int .i64 (winK x)) ∧ Below w.heap.size w w' := by
  obtain ⟨k, hk⟩ : ∃ k, Hid (k = winK x) := ⟨_, rfl⟩
  rw [← hk.out]
  have hk2 := hk.out
  unfold winK at hk2
  clear hk
  by_cases h1 : x = k_sum
  · rw [if_pos h1] at hk2
    subst hk2 h1
    go_enter Tryz.func146, Tryz.ntmps146
    go_wp2_with fail
    go_ret
    exact ⟨rfl, Below.refl _ _⟩
  rw [if_neg h1] at hk2
  have n1 := ba_neL [115, 117, 109] h1
  by_cases h2 : x = k_avg
  · rw [if_pos h2] at hk2
    subst hk2 h2
    clear n1
    go_enter Tryz.func146, Tryz.ntmps146
    go_wp2_with fail
    go_ret
    exact ⟨rfl, Below.refl _ _⟩
  rw [if_neg h2] at hk2
  have n2 := ba_neL [97, 118, 103] h2
  by_cases h3 : x = k_low
  · rw [if_pos h3] at hk2
    subst hk2 h3
    clear n1 n2
    go_enter Tryz.func146, Tryz.ntmps146
    go_wp2_with fail
    go_ret
    exact ⟨rfl, Below.refl _ _⟩
  rw [if_neg h3] at hk2
  have n3 := ba_neL [108, 111, 119] h3
  by_cases h4 : x = k_high
  · rw [if_pos h4] at hk2
    subst hk2 h4
    clear n1 n2 n3
    go_enter Tryz.func146, Tryz.ntmps146
    go_wp2_with fail
    go_ret
    exact ⟨rfl, Below.refl _ _⟩
  rw [if_neg h4] at hk2
  have n4 := ba_neL [104, 105, 103, 104] h4
  by_cases h5 : x = k_count
  · rw [if_pos h5] at hk2
    subst hk2 h5
    clear n1 n2 n3 n4
    go_enter Tryz.func146, Tryz.ntmps146
    go_wp2_with fail
    go_ret
    exact ⟨rfl, Below.refl _ _⟩
  rw [if_neg h5] at hk2
  have n5 := ba_neL [99, 111, 117, 110, 116] h5
  by_cases h6 : x = k_rank
  · rw [if_pos h6] at hk2
    subst hk2 h6
    clear n1 n2 n3 n4 n5
    go_enter Tryz.func146, Tryz.ntmps146
    go_wp2_with fail
    go_ret
    exact ⟨rfl, Below.refl _ _⟩
  rw [if_neg h6] at hk2
  have n6 := ba_neL [114, 97, 110, 107] h6
  subst hk2
  go_enter Tryz.func146, Tryz.ntmps146
  go_wp2_with fail
  go_ret
  exact ⟨rfl, Below.refl _ _⟩
set_option maxHeartbeats 4000000 in
set_option maxRecDepth 20000 in
theorem window_c0 {z rb tb lb : Nat} {c : Int} {L : List Tk} {o : Nat} (hz : z ≤ 9223372036854775807) {X : Option Ps} (HX : InC z rb tb lb c o X) {t0 : Tk} (hx : nxt c L = .ok t0) (hm : isT t0.text t0 = true) (kd : Int) (hkd : winK t0.text = kd) (h0 : kd ≠ 0) (h12 : kd ≠ 12) (w : World) (hr : Rea z w rb tb lb c L o) :
    Calls Tryz.prog 129 #[.pointer (some ⟨rb, 0, none⟩), .string t0.text] w (Out (VTm w.heap.size z) z w rb tb lb c o (winP c X kd t0.at_ L.tail)) := by
  obtain ⟨pr, hpr⟩ : ∃ pr, Hid (pr = winP c X kd t0.at_ L.tail) := ⟨_, rfl⟩
  rw [← hpr.out]
  have hE : Hid (∀ f w', pr = .error f → Turn [rb] w w' → Out (VTm w.heap.size z) z w rb tb lb c o pr (.panicked [fltE f]) w') := fun f w' h ht => Out.mk_err h ht
  have hO : Hid (∀ t L' w' v u, pr = .ok (t, L') → Turn [rb] w w' → v = tmV t u → SitB w.heap.size z w' t u → Rea z w' rb tb lb c L' o → Out (VTm w.heap.size z) z w rb tb lb c o pr (.returned v) w') := fun t L' w' v u h ht hv hs hr' => Out.mk_ok h ht ⟨u, hv, hs⟩ hr'
  generalize Out (VTm w.heap.size z) z w rb tb lb c o pr = Post at *
  have hL := hr.lts
  have hne : w.heap.size ∉ [rb] := by simp; omega
  have hin := winK_in t0.text
  rw [hkd] at hin
  have hok := hr.tl.ok
  rw [← nxt_inv hx] at hok
  have hm1 := mustS_of hx hm
  have g1 := fld1
  have g2 := fld2
  have HK := fun W => windowKind_c t0.text W
  rw [hkd] at HK
  have hk0 : (kd == 0) = false := by simpa using h0
  have hk12 : (kd == 12) = false := by simpa using h12
  have Z0 := Box.new w zs6 33
  go_enter Tryz.func129, Tryz.ntmps129
  go_wp2_with fail
  have T0 := tnO (ob := .cells (zs6).toArray 33) (Turn.refl [rb] w)
  have r0 := hr.onO (ob := .cells (zs6).toArray 33)
  have Rs0 := Z0
  have zsz : w.heap.size < (w.alloc (.cells (zs6).toArray 33)).heap.size := by simp
  clear Z0
  generalize hW0 : w.alloc _ = w0 at *
  clear hW0
  clear hr
  refine Calls.mono (HK _) ?_
  rintro e w1 ⟨rfl, b1⟩
  have t1 := Turn.of_below (S := [rb]) b1
  have r1 := r0.next b1
  have Rs1 := Rs0.turn t1 hne
  have T1 := tn T0 t1
  have s1 := t1.size
  clear Rs0 T0 r0 b1 t1
  go_wp2_with fail
  refine Calls.mono (must_c t0.text _ r1) ?_
  rintro e w2 h2
  obtain ⟨t2, _, rfl, rfl, r2⟩ := Out.of_ok hm1 h2
  have Rs2 := Rs1.turn t2 hne
  have T2 := tn T1 t2
  have s2 := t2.size
  clear Rs1 T1 r1 h2 t2
  go_wp2_with fail
  refine Calls.mono (term_c _ _ _ _ _ _) ?_
  rintro e w3 ⟨rfl, b3⟩
  have t3 := Turn.of_below (S := [rb]) b3
  have r3 := r2.next b3
  have Rs3 := Rs2.turn t3 hne
  have T3 := tn T2 t3
  have s3 := t3.size
  clear Rs2 T2 r2 b3 t3
  go_wp2_with fail
  have t4 := tnO (ob := .cells ([.int .i64 kd, .string ⟨#[]⟩, .int .i64 0, .int .i64 0, .int .i64 (t0.at_ : Nat), .slice none 0 0]).toArray 33) (Turn.refl [rb] w3)
  have r4 := r3.onO (ob := .cells ([.int .i64 kd, .string ⟨#[]⟩, .int .i64 0, .int .i64 0, .int .i64 (t0.at_ : Nat), .slice none 0 0]).toArray 33)
  have Lt4 := Box.new w3 [.int .i64 kd, .string ⟨#[]⟩, .int .i64 0, .int .i64 0, .int .i64 (t0.at_ : Nat), .slice none 0 0] 33
  have hnLt : w3.heap.size ∉ [rb] := by simp; omega
  have hxLt : w3.heap.size < (w3.alloc (.cells ([.int .i64 kd, .string ⟨#[]⟩, .int .i64 0, .int .i64 0, .int .i64 (t0.at_ : Nat), .slice none 0 0]).toArray 33)).heap.size := by simp
  have Rs4 := Rs3.turn t4 hne
  have T4 := tn T3 t4
  have s4 := t4.size
  clear Rs3 T3 r3 t4
  generalize hW4 : w3.alloc _ = w4 at *
  clear hW4
  rw [winP] at hpr
  simp only [if_neg h12] at hpr
  refine Calls.mono (begin_c k_lp _ r4) ?_
  rintro e w5 h5
  rcases hy1 : mustS c k_lp L.tail with f | y
  · obtain ⟨rfl, t5⟩ := beg_err hy1 h5
    go_wp2_with fail
    exact ⟨rfl, hE.out _ _ (by rw [hpr.out, beginP, hy1]; rfl) (tn T4 t5)⟩
  rcases X with _ | E
  · obtain ⟨rfl, t5⟩ := beg_deep hy1 (HX.no rfl) h5
    go_wp2_with fail
    exact ⟨rfl, hE.out _ _ (by rw [hpr.out, beginP, hy1]; rfl) (tn T4 t5)⟩
  obtain ⟨rfl, t5, r5⟩ := beg_ok hy1 (HX.yes E rfl).1 h5
  have Rs5 := Rs4.turn t5 hne
  have Lt5 := Lt4.turn t5 hnLt
  have T5 := tn T4 t5
  have s5 := t5.size
  clear Rs4 Lt4 T4 r4 h5 t5
  have hpr1 : Hid (pr = bnd (takeK c 1 y.2) fun t => bnd (mustS c k_com t.2) fun b => bnd (takeK c 3 b.2) fun d => closeP c k_rp (⟨kd, t.1.text, d.1.n, 0, (t0.at_ : Int), []⟩, d.2)) := by show _ = _; rw [hpr.out, beginP, hy1]; rfl
  have htl1 := r5.tl
  go_wp2_with fail
  refine Calls.mono (take_c2 1 (by decide) _ r5) ?_
  rintro e w6 h6
  rcases hy2 : takeK c 1 y.2 with f | q
  · obtain ⟨rfl, t6⟩ := Out.of_err hy2 h6
    go_wp2_with fail
    exact ⟨rfl, hE.out _ _ (by rw [hpr1.out, hy2]; rfl) (tn T5 t6)⟩
  obtain ⟨t6, _, rfl, rfl, r6⟩ := Out.of_ok hy2 h6
  have Rs6 := Rs5.turn t6 hne
  have Lt6 := Lt5.turn t6 hnLt
  have T6 := tn T5 t6
  have s6 := t6.size
  clear Rs5 Lt5 T5 r5 h6 t6
  have hpr2 : Hid (pr = bnd (mustS c k_com q.2) fun b => bnd (takeK c 3 b.2) fun d => closeP c k_rp (⟨kd, q.1.text, d.1.n, 0, (t0.at_ : Int), []⟩, d.2)) := by show _ = _; rw [hpr1.out, hy2]; rfl
  simp only [tkW]
  obtain ⟨x0, x1, x2, x3, x4, x5, xf0, xf1, xf2, xf3, xf4, xf5⟩ := Lt6.six
  have xl := Lt6.lt
  go_wp2_with fail
  clear x0 x1 x2 x3 x4 x5 xf0 xf1 xf2 xf3 xf4 xf5
  have t7 := turn_set w6 (w3.heap.size) 1 (.string q.1.text)
  have r7 := r6.turn1 t7 (by omega)
  have T7 := T6.andSet ⟨w3.heap.size, 1, none⟩ (.string q.1.text) (.inr (by show w.heap.size ≤ w3.heap.size; omega))
  have s7 := t7.size
  have Rs7 := Rs6.other (q := w3.heap.size) (j := 1) (v := .string q.1.text) (by omega)
  have Lt7 := Lt6.set 1 (by simp) (.string q.1.text)
  clear Rs6 Lt6 T6 r6 t7
  generalize hW7 : w6.setCell _ _ = w7 at *
  clear hW7
  refine Calls.mono (must_c k_com _ r7) ?_
  rintro e w8 h8
  rcases hy3 : mustS c k_com q.2 with f | b
  · obtain ⟨rfl, t8⟩ := Out.of_err hy3 h8
    go_wp2_with fail
    exact ⟨rfl, hE.out _ _ (by rw [hpr2.out, hy3]; rfl) (tn T7 t8)⟩
  obtain ⟨t8, _, rfl, rfl, r8⟩ := Out.of_ok hy3 h8
  have Rs8 := Rs7.turn t8 hne
  have Lt8 := Lt7.turn t8 hnLt
  have T8 := tn T7 t8
  have s8 := t8.size
  clear Rs7 Lt7 T7 r7 h8 t8
  have hpr3 : Hid (pr = bnd (takeK c 3 b.2) fun d => closeP c k_rp (⟨kd, q.1.text, d.1.n, 0, (t0.at_ : Int), []⟩, d.2)) := by show _ = _; rw [hpr2.out, hy3]; rfl
  have htl2 := r8.tl
  go_wp2_with fail
  refine Calls.mono (take_c2 3 (by decide) _ r8) ?_
  rintro e w9 h9
  rcases hy4 : takeK c 3 b.2 with f | d
  · obtain ⟨rfl, t9⟩ := Out.of_err hy4 h9
    go_wp2_with fail
    exact ⟨rfl, hE.out _ _ (by rw [hpr3.out, hy4]; rfl) (tn T8 t9)⟩
  obtain ⟨t9, _, rfl, rfl, r9⟩ := Out.of_ok hy4 h9
  have Rs9 := Rs8.turn t9 hne
  have Lt9 := Lt8.turn t9 hnLt
  have T9 := tn T8 t9
  have s9 := t9.size
  clear Rs8 Lt8 T8 r8 h9 t9
  have hpr4 : Hid (pr = closeP c k_rp (⟨kd, q.1.text, d.1.n, 0, (t0.at_ : Int), []⟩, d.2)) := by show _ = _; rw [hpr3.out, hy4]; rfl
  simp only [tkW]
  obtain ⟨x0, x1, x2, x3, x4, x5, xf0, xf1, xf2, xf3, xf4, xf5⟩ := Lt9.six
  have xl := Lt9.lt
  go_wp2_with fail
  clear x0 x1 x2 x3 x4 x5 xf0 xf1 xf2 xf3 xf4 xf5
  have t10 := turn_set w9 (w3.heap.size) 2 (.int .i64 d.1.n)
  have r10 := r9.turn1 t10 (by omega)
  have T10 := T9.andSet ⟨w3.heap.size, 2, none⟩ (.int .i64 d.1.n) (.inr (by show w.heap.size ≤ w3.heap.size; omega))
  have s10 := t10.size
  have Rs10 := Rs9.other (q := w3.heap.size) (j := 2) (v := .int .i64 d.1.n) (by omega)
  have Lt10 := Lt9.set 2 (by simp) (.int .i64 d.1.n)
  clear Rs9 Lt9 T9 r9 t10
  generalize hW10 : w9.setCell _ _ = w10 at *
  clear hW10
  rw [closeP] at hpr4
  refine Calls.mono (close_c k_rp _ r10) ?_
  rintro e w11 h11
  rcases hy5 : mustS c k_rp d.2 with f | zz
  · obtain ⟨rfl, t11⟩ := Out.of_err hy5 h11
    go_wp2_with fail
    exact ⟨rfl, hE.out _ _ (by rw [hpr4.out, hy5]; rfl) (tn T10 t11)⟩
  obtain ⟨t11, _, rfl, rfl, r11⟩ := Out.of_ok hy5 h11
  have Rs11 := Rs10.turn t11 hne
  have Lt11 := Lt10.turn t11 hnLt
  have T11 := tn T10 t11
  have s11 := t11.size
  clear Rs10 Lt10 T10 r10 h11 t11
  have hpr5 : Hid (pr = .ok (⟨kd, q.1.text, d.1.n, 0, (t0.at_ : Int), []⟩, zz.2)) := by show _ = _; rw [hpr4.out, hy5]; rfl
  obtain ⟨p0, p1, p2, p3, p4, p5, pf0, pf1, pf2, pf3, pf4, pf5⟩ := Rs11.six
  have pl := Rs11.lt
  obtain ⟨x0, x1, x2, x3, x4, x5, xf0, xf1, xf2, xf3, xf4, xf5⟩ := Lt11.six
  have xl := Lt11.lt
  have hg : w3.heap.size ≠ w.heap.size := by omega
  go_wp2_with fail
  refine bodyPost_ret (v := tmV (⟨kd, q.1.text, d.1.n, 0, (t0.at_ : Int), []⟩) (.slice none 0 0)) (by simp [results, Tryz.results129, go_sem, *]) rfl (hO.out (⟨kd, q.1.text, d.1.n, 0, (t0.at_ : Int), []⟩) (zz.2) _ _ (.slice none 0 0) (hpr5.out) ?_ rfl ?_ ?_)
  · exact T11.trans (turn_six _ _ _ _ _ _ _ _) (fun i hi => .inr (by simp at hi; omega))
  · exact sitb_leaf (fit_of _ _ _ _ _ _ hz (by omega) (by omega) (takeK_tl htl1 hy2 (by decide)).1.x (n64 (takeK_tl htl2 hy4 (by decide)).1) zero64 hok.a) rfl
  · exact r11.turn1 (turn_six _ _ _ _ _ _ _ _) hL
set_option maxHeartbeats 4000000 in
set_option maxRecDepth 20000 in
theorem window_c1 {z rb tb lb : Nat} {c : Int} {L : List Tk} {o : Nat} (hz : z ≤ 9223372036854775807) {X : Option Ps} (HX : InC z rb tb lb c o X) {t0 : Tk} (hx : nxt c L = .ok t0) (hm : isT t0.text t0 = true) (kd : Int) (hkd : winK t0.text = kd) (h0 : kd ≠ 0) (h12 : kd = 12) (w : World) (hr : Rea z w rb tb lb c L o) :
    Calls Tryz.prog 129 #[.pointer (some ⟨rb, 0, none⟩), .string t0.text] w (Out (VTm w.heap.size z) z w rb tb lb c o (winP c X kd t0.at_ L.tail)) := by
  obtain ⟨pr, hpr⟩ : ∃ pr, Hid (pr = winP c X kd t0.at_ L.tail) := ⟨_, rfl⟩
  rw [← hpr.out]
  have hE : Hid (∀ f w', pr = .error f → Turn [rb] w w' → Out (VTm w.heap.size z) z w rb tb lb c o pr (.panicked [fltE f]) w') := fun f w' h ht => Out.mk_err h ht
  have hO : Hid (∀ t L' w' v u, pr = .ok (t, L') → Turn [rb] w w' → v = tmV t u → SitB w.heap.size z w' t u → Rea z w' rb tb lb c L' o → Out (VTm w.heap.size z) z w rb tb lb c o pr (.returned v) w') := fun t L' w' v u h ht hv hs hr' => Out.mk_ok h ht ⟨u, hv, hs⟩ hr'
  generalize Out (VTm w.heap.size z) z w rb tb lb c o pr = Post at *
  have hL := hr.lts
  have hne : w.heap.size ∉ [rb] := by simp; omega
  have hin := winK_in t0.text
  rw [hkd] at hin
  have hok := hr.tl.ok
  rw [← nxt_inv hx] at hok
  have hm1 := mustS_of hx hm
  have g1 := fld1
  have g2 := fld2
  have HK := fun W => windowKind_c t0.text W
  rw [hkd] at HK
  have hk0 : (kd == 0) = false := by simpa using h0
  have Z0 := Box.new w zs6 33
  go_enter Tryz.func129, Tryz.ntmps129
  go_wp2_with fail
  have T0 := tnO (ob := .cells (zs6).toArray 33) (Turn.refl [rb] w)
  have r0 := hr.onO (ob := .cells (zs6).toArray 33)
  have Rs0 := Z0
  have zsz : w.heap.size < (w.alloc (.cells (zs6).toArray 33)).heap.size := by simp
  clear Z0
  generalize hW0 : w.alloc _ = w0 at *
  clear hW0
  clear hr
  refine Calls.mono (HK _) ?_
  rintro e w1 ⟨rfl, b1⟩
  have t1 := Turn.of_below (S := [rb]) b1
  have r1 := r0.next b1
  have Rs1 := Rs0.turn t1 hne
  have T1 := tn T0 t1
  have s1 := t1.size
  clear Rs0 T0 r0 b1 t1
  go_wp2_with fail
  refine Calls.mono (must_c t0.text _ r1) ?_
  rintro e w2 h2
  obtain ⟨t2, _, rfl, rfl, r2⟩ := Out.of_ok hm1 h2
  have Rs2 := Rs1.turn t2 hne
  have T2 := tn T1 t2
  have s2 := t2.size
  clear Rs1 T1 r1 h2 t2
  go_wp2_with fail
  refine Calls.mono (term_c _ _ _ _ _ _) ?_
  rintro e w3 ⟨rfl, b3⟩
  have t3 := Turn.of_below (S := [rb]) b3
  have r3 := r2.next b3
  have Rs3 := Rs2.turn t3 hne
  have T3 := tn T2 t3
  have s3 := t3.size
  clear Rs2 T2 r2 b3 t3
  go_wp2_with fail
  subst h12
  have t4 := tnO (ob := .cells ([.int .i64 12, .string ⟨#[]⟩, .int .i64 0, .int .i64 0, .int .i64 (t0.at_ : Nat), .slice none 0 0]).toArray 33) (Turn.refl [rb] w3)
  have r4 := r3.onO (ob := .cells ([.int .i64 12, .string ⟨#[]⟩, .int .i64 0, .int .i64 0, .int .i64 (t0.at_ : Nat), .slice none 0 0]).toArray 33)
  have Lt4 := Box.new w3 [.int .i64 12, .string ⟨#[]⟩, .int .i64 0, .int .i64 0, .int .i64 (t0.at_ : Nat), .slice none 0 0] 33
  have hnLt : w3.heap.size ∉ [rb] := by simp; omega
  have hxLt : w3.heap.size < (w3.alloc (.cells ([.int .i64 12, .string ⟨#[]⟩, .int .i64 0, .int .i64 0, .int .i64 (t0.at_ : Nat), .slice none 0 0]).toArray 33)).heap.size := by simp
  have Rs4 := Rs3.turn t4 hne
  have T4 := tn T3 t4
  have s4 := t4.size
  clear Rs3 T3 r3 t4
  generalize hW4 : w3.alloc _ = w4 at *
  clear hW4
  rw [winP] at hpr
  simp only [if_true] at hpr
  refine Calls.mono (begin_c k_lp _ r4) ?_
  rintro e w5 h5
  rcases hy1 : mustS c k_lp L.tail with f | y
  · obtain ⟨rfl, t5⟩ := beg_err hy1 h5
    go_wp2_with fail
    exact ⟨rfl, hE.out _ _ (by rw [hpr.out, beginP, hy1]; rfl) (tn T4 t5)⟩
  rcases X with _ | E
  · obtain ⟨rfl, t5⟩ := beg_deep hy1 (HX.no rfl) h5
    go_wp2_with fail
    exact ⟨rfl, hE.out _ _ (by rw [hpr.out, beginP, hy1]; rfl) (tn T4 t5)⟩
  obtain ⟨rfl, t5, r5⟩ := beg_ok hy1 (HX.yes E rfl).1 h5
  have Rs5 := Rs4.turn t5 hne
  have Lt5 := Lt4.turn t5 hnLt
  have T5 := tn T4 t5
  have s5 := t5.size
  clear Rs4 Lt4 T4 r4 h5 t5
  have hpr1 : Hid (pr = bnd (takeK c 1 y.2) fun t => bnd (mustS c k_com t.2) fun b => bnd (takeK c 3 b.2) fun d => bnd (mustS c k_com d.2) fun e => bnd (takeK c 2 e.2) fun m => closeP c k_rp (⟨12, t.1.text, d.1.n, m.1.n, (t0.at_ : Int), []⟩, m.2)) := by show _ = _; rw [hpr.out, beginP, hy1]; rfl
  have htl1 := r5.tl
  go_wp2_with fail
  refine Calls.mono (take_c2 1 (by decide) _ r5) ?_
  rintro e w6 h6
  rcases hy2 : takeK c 1 y.2 with f | q
  · obtain ⟨rfl, t6⟩ := Out.of_err hy2 h6
    go_wp2_with fail
    exact ⟨rfl, hE.out _ _ (by rw [hpr1.out, hy2]; rfl) (tn T5 t6)⟩
  obtain ⟨t6, _, rfl, rfl, r6⟩ := Out.of_ok hy2 h6
  have Rs6 := Rs5.turn t6 hne
  have Lt6 := Lt5.turn t6 hnLt
  have T6 := tn T5 t6
  have s6 := t6.size
  clear Rs5 Lt5 T5 r5 h6 t6
  have hpr2 : Hid (pr = bnd (mustS c k_com q.2) fun b => bnd (takeK c 3 b.2) fun d => bnd (mustS c k_com d.2) fun e => bnd (takeK c 2 e.2) fun m => closeP c k_rp (⟨12, q.1.text, d.1.n, m.1.n, (t0.at_ : Int), []⟩, m.2)) := by show _ = _; rw [hpr1.out, hy2]; rfl
  simp only [tkW]
  obtain ⟨x0, x1, x2, x3, x4, x5, xf0, xf1, xf2, xf3, xf4, xf5⟩ := Lt6.six
  have xl := Lt6.lt
  go_wp2_with fail
  clear x0 x1 x2 x3 x4 x5 xf0 xf1 xf2 xf3 xf4 xf5
  have t7 := turn_set w6 (w3.heap.size) 1 (.string q.1.text)
  have r7 := r6.turn1 t7 (by omega)
  have T7 := T6.andSet ⟨w3.heap.size, 1, none⟩ (.string q.1.text) (.inr (by show w.heap.size ≤ w3.heap.size; omega))
  have s7 := t7.size
  have Rs7 := Rs6.other (q := w3.heap.size) (j := 1) (v := .string q.1.text) (by omega)
  have Lt7 := Lt6.set 1 (by simp) (.string q.1.text)
  clear Rs6 Lt6 T6 r6 t7
  generalize hW7 : w6.setCell _ _ = w7 at *
  clear hW7
  refine Calls.mono (must_c k_com _ r7) ?_
  rintro e w8 h8
  rcases hy3 : mustS c k_com q.2 with f | b
  · obtain ⟨rfl, t8⟩ := Out.of_err hy3 h8
    go_wp2_with fail
    exact ⟨rfl, hE.out _ _ (by rw [hpr2.out, hy3]; rfl) (tn T7 t8)⟩
  obtain ⟨t8, _, rfl, rfl, r8⟩ := Out.of_ok hy3 h8
  have Rs8 := Rs7.turn t8 hne
  have Lt8 := Lt7.turn t8 hnLt
  have T8 := tn T7 t8
  have s8 := t8.size
  clear Rs7 Lt7 T7 r7 h8 t8
  have hpr3 : Hid (pr = bnd (takeK c 3 b.2) fun d => bnd (mustS c k_com d.2) fun e => bnd (takeK c 2 e.2) fun m => closeP c k_rp (⟨12, q.1.text, d.1.n, m.1.n, (t0.at_ : Int), []⟩, m.2)) := by show _ = _; rw [hpr2.out, hy3]; rfl
  have htl2 := r8.tl
  go_wp2_with fail
  refine Calls.mono (take_c2 3 (by decide) _ r8) ?_
  rintro e w9 h9
  rcases hy4 : takeK c 3 b.2 with f | d
  · obtain ⟨rfl, t9⟩ := Out.of_err hy4 h9
    go_wp2_with fail
    exact ⟨rfl, hE.out _ _ (by rw [hpr3.out, hy4]; rfl) (tn T8 t9)⟩
  obtain ⟨t9, _, rfl, rfl, r9⟩ := Out.of_ok hy4 h9
  have Rs9 := Rs8.turn t9 hne
  have Lt9 := Lt8.turn t9 hnLt
  have T9 := tn T8 t9
  have s9 := t9.size
  clear Rs8 Lt8 T8 r8 h9 t9
  have hpr4 : Hid (pr = bnd (mustS c k_com d.2) fun e => bnd (takeK c 2 e.2) fun m => closeP c k_rp (⟨12, q.1.text, d.1.n, m.1.n, (t0.at_ : Int), []⟩, m.2)) := by show _ = _; rw [hpr3.out, hy4]; rfl
  simp only [tkW]
  obtain ⟨x0, x1, x2, x3, x4, x5, xf0, xf1, xf2, xf3, xf4, xf5⟩ := Lt9.six
  have xl := Lt9.lt
  go_wp2_with fail
  clear x0 x1 x2 x3 x4 x5 xf0 xf1 xf2 xf3 xf4 xf5
  have t10 := turn_set w9 (w3.heap.size) 2 (.int .i64 d.1.n)
  have r10 := r9.turn1 t10 (by omega)
  have T10 := T9.andSet ⟨w3.heap.size, 2, none⟩ (.int .i64 d.1.n) (.inr (by show w.heap.size ≤ w3.heap.size; omega))
  have s10 := t10.size
  have Rs10 := Rs9.other (q := w3.heap.size) (j := 2) (v := .int .i64 d.1.n) (by omega)
  have Lt10 := Lt9.set 2 (by simp) (.int .i64 d.1.n)
  clear Rs9 Lt9 T9 r9 t10
  generalize hW10 : w9.setCell _ _ = w10 at *
  clear hW10
  refine Calls.mono (must_c k_com _ r10) ?_
  rintro e w11 h11
  rcases hy5 : mustS c k_com d.2 with f | e1
  · obtain ⟨rfl, t11⟩ := Out.of_err hy5 h11
    go_wp2_with fail
    exact ⟨rfl, hE.out _ _ (by rw [hpr4.out, hy5]; rfl) (tn T10 t11)⟩
  obtain ⟨t11, _, rfl, rfl, r11⟩ := Out.of_ok hy5 h11
  have Rs11 := Rs10.turn t11 hne
  have Lt11 := Lt10.turn t11 hnLt
  have T11 := tn T10 t11
  have s11 := t11.size
  clear Rs10 Lt10 T10 r10 h11 t11
  have hpr5 : Hid (pr = bnd (takeK c 2 e1.2) fun m => closeP c k_rp (⟨12, q.1.text, d.1.n, m.1.n, (t0.at_ : Int), []⟩, m.2)) := by show _ = _; rw [hpr4.out, hy5]; rfl
  have htl3 := r11.tl
  go_wp2_with fail
  refine Calls.mono (take_c2 2 (by decide) _ r11) ?_
  rintro e w12 h12
  rcases hy6 : takeK c 2 e1.2 with f | m
  · obtain ⟨rfl, t12⟩ := Out.of_err hy6 h12
    go_wp2_with fail
    exact ⟨rfl, hE.out _ _ (by rw [hpr5.out, hy6]; rfl) (tn T11 t12)⟩
  obtain ⟨t12, _, rfl, rfl, r12⟩ := Out.of_ok hy6 h12
  have Rs12 := Rs11.turn t12 hne
  have Lt12 := Lt11.turn t12 hnLt
  have T12 := tn T11 t12
  have s12 := t12.size
  clear Rs11 Lt11 T11 r11 h12 t12
  have hpr6 : Hid (pr = closeP c k_rp (⟨12, q.1.text, d.1.n, m.1.n, (t0.at_ : Int), []⟩, m.2)) := by show _ = _; rw [hpr5.out, hy6]; rfl
  simp only [tkW]
  obtain ⟨x0, x1, x2, x3, x4, x5, xf0, xf1, xf2, xf3, xf4, xf5⟩ := Lt12.six
  have xl := Lt12.lt
  go_wp2_with fail
  clear x0 x1 x2 x3 x4 x5 xf0 xf1 xf2 xf3 xf4 xf5
  have t13 := turn_set w12 (w3.heap.size) 3 (.int .i64 m.1.n)
  have r13 := r12.turn1 t13 (by omega)
  have T13 := T12.andSet ⟨w3.heap.size, 3, none⟩ (.int .i64 m.1.n) (.inr (by show w.heap.size ≤ w3.heap.size; omega))
  have s13 := t13.size
  have Rs13 := Rs12.other (q := w3.heap.size) (j := 3) (v := .int .i64 m.1.n) (by omega)
  have Lt13 := Lt12.set 3 (by simp) (.int .i64 m.1.n)
  clear Rs12 Lt12 T12 r12 t13
  generalize hW13 : w12.setCell _ _ = w13 at *
  clear hW13
  rw [closeP] at hpr6
  refine Calls.mono (close_c k_rp _ r13) ?_
  rintro e w14 h14
  rcases hy7 : mustS c k_rp m.2 with f | zz
  · obtain ⟨rfl, t14⟩ := Out.of_err hy7 h14
    go_wp2_with fail
    exact ⟨rfl, hE.out _ _ (by rw [hpr6.out, hy7]; rfl) (tn T13 t14)⟩
  obtain ⟨t14, _, rfl, rfl, r14⟩ := Out.of_ok hy7 h14
  have Rs14 := Rs13.turn t14 hne
  have Lt14 := Lt13.turn t14 hnLt
  have T14 := tn T13 t14
  have s14 := t14.size
  clear Rs13 Lt13 T13 r13 h14 t14
  have hpr7 : Hid (pr = .ok (⟨12, q.1.text, d.1.n, m.1.n, (t0.at_ : Int), []⟩, zz.2)) := by show _ = _; rw [hpr6.out, hy7]; rfl
  obtain ⟨p0, p1, p2, p3, p4, p5, pf0, pf1, pf2, pf3, pf4, pf5⟩ := Rs14.six
  have pl := Rs14.lt
  obtain ⟨x0, x1, x2, x3, x4, x5, xf0, xf1, xf2, xf3, xf4, xf5⟩ := Lt14.six
  have xl := Lt14.lt
  have hg : w3.heap.size ≠ w.heap.size := by omega
  go_wp2_with fail
  refine bodyPost_ret (v := tmV (⟨12, q.1.text, d.1.n, m.1.n, (t0.at_ : Int), []⟩) (.slice none 0 0)) (by simp [results, Tryz.results129, go_sem, *]) rfl (hO.out (⟨12, q.1.text, d.1.n, m.1.n, (t0.at_ : Int), []⟩) (zz.2) _ _ (.slice none 0 0) (hpr7.out) ?_ rfl ?_ ?_)
  · exact T14.trans (turn_six _ _ _ _ _ _ _ _) (fun i hi => .inr (by simp at hi; omega))
  · exact sitb_leaf (fit_of _ _ _ _ _ _ hz (by omega) (by omega) (takeK_tl htl1 hy2 (by decide)).1.x (n64 (takeK_tl htl2 hy4 (by decide)).1) (n64 (takeK_tl htl3 hy6 (by decide)).1) hok.a) rfl
  · exact r14.turn1 (turn_six _ _ _ _ _ _ _ _) hL
set_option maxHeartbeats 1000000 in
theorem window_no {z rb tb lb : Nat} {c : Int} {L : List Tk} {o : Nat} {t0 : Tk} (hx : nxt c L = .ok t0) (hkd : winK t0.text = 0) (w : World) (hr : Rea z w rb tb lb c L o) :
    Calls Tryz.prog 129 #[.pointer (some ⟨rb, 0, none⟩), .string t0.text] w fun e w' => e = .panicked [fltE (t0.at_, 16)] ∧ Below w.heap.size w w' := by
  have HK := fun W => windowKind_c t0.text W
  rw [hkd] at HK
  have HU := hid2 (fun W (k : Below w.heap.size w W) => unfit_ok hx W (hr.next k))
  clear hr hx
  go_enter Tryz.func129, Tryz.ntmps129
  go_wp2_with fail
  refine Calls.mono (HK _) ?_
  rintro e w1 ⟨rfl, b1⟩
  have b2 : Below w.heap.size w w1 := below_on ((Below.refl _ _).alloc (Nat.le_refl _) _) b1 (by simp)
  go_wp2_with fail
  refine Calls.mono (HU.out _ b2) ?_
  rintro e w2 ⟨rfl, b3⟩
  go_wp2_with fail
  exact ⟨rfl, rfl, below_on b2 b3 b2.size⟩
end Go.Proofs.YtecdfnpbcabdnaaGreatDoor

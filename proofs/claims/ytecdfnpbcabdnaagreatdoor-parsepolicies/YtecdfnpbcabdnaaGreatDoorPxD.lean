/- Package parse: call. -/
import Derived.Test.YtecdfnpbcabdnaaGreatDoorPxC
import Derived.Test.YtecdfnpbcabdnaaGreatDoorPxP
namespace Go.Proofs.YtecdfnpbcabdnaaGreatDoor
open Go.RowKit Go.Lib

/-- A call's term while its parts are read. -/
structure CaS (z : Nat) (w W : World) (rb tb lb : Nat) (c : Int) (o g : Nat) (kd : Int) (a : Nat) (Lr : List Tk) (v : Value) (ts : List (Tm × Value)) : Prop where
  rs : Box W w.heap.size zs6
  lt : Box W g [.int .i64 kd, .string ⟨#[]⟩, .int .i64 0, .int .i64 0, .int .i64 (a : Nat), v]
  pa : PaO (g + 1) z W v ts
  re : Rea z W rb tb lb c Lr o
  tn : Turn [rb] w W
  gg : w.heap.size < g
  hr : rb < w.heap.size ∧ tb < w.heap.size ∧ lb < w.heap.size
theorem CaS.turn {z : Nat} {w W W' : World} {rb tb lb : Nat} {c : Int} {o g : Nat} {kd : Int} {a : Nat} {Lr Lq : List Tk} {v : Value} {ts : List (Tm × Value)} (h : CaS z w W rb tb lb c o g kd a Lr v ts) (k : Turn [rb] W W') (r : Rea z W' rb tb lb c Lq o) : CaS z w W' rb tb lb c o g kd a Lq v ts := by
  have h1 := h.gg
  have h2 := h.hr
  exact ⟨h.rs.turn k (by simp; omega), h.lt.turn k (by simp; omega), h.pa.turn k (by simp; omega), r, Go.Proofs.YtecdfnpbcabdnaaGreatDoor.tn h.tn k, h.gg, h.hr⟩
theorem CaS.next {z : Nat} {w W W' : World} {rb tb lb : Nat} {c : Int} {o g : Nat} {kd : Int} {a : Nat} {Lr : List Tk} {v : Value} {ts : List (Tm × Value)} (h : CaS z w W rb tb lb c o g kd a Lr v ts) (k : Below W.heap.size W W') : CaS z w W' rb tb lb c o g kd a Lr v ts :=
  h.turn (Turn.of_below k) (h.re.next k)
theorem ReaX.later {z : Nat} {w w' : World} {rb tb lb : Nat} {c : Int} {L : List Tk} {o off cap B : Nat} (h : ReaX z w rb tb lb c L o off cap) (k : Below B w w') (h1 : rb < B ∧ tb < B ∧ lb < B) : ReaX z w' rb tb lb c L o off cap :=
  ⟨h.box.later k h1.1, h.le, h.mx, fun q u hu => (k.cell (p := ⟨tb, off + q, none⟩) h1.2.1).trans (h.toks q u hu), fun q u hu => (k.cell (p := ⟨lb, q, none⟩) h1.2.2).trans (h.levs q u hu), h.nt, h.nl, Nat.lt_of_lt_of_le h.lt k.size, Nat.lt_of_lt_of_le h.ll k.size, h.tl, h.dp, h.ci⟩
theorem Rea.later {z : Nat} {w w' : World} {rb tb lb : Nat} {c : Int} {L : List Tk} {o B : Nat} (h : Rea z w rb tb lb c L o) (k : Below B w w') (h1 : rb < B ∧ tb < B ∧ lb < B) : Rea z w' rb tb lb c L o := by
  obtain ⟨off, cap, h⟩ := h
  exact ⟨off, cap, h.later k h1⟩
theorem turn_later {rb B : Nat} {w W W' : World} (h : Turn [rb] w W) (k : Below B W W') (hB : w.heap.size ≤ B) : Turn [rb] w W' :=
  ⟨k.os.trans h.os, k.tape.trans h.tape, k.output.trans h.output, Nat.le_trans h.size k.size, fun i hi hn => (k.block i (by omega)).trans (h.block i hi hn)⟩
/-- A part more. -/
theorem CaS.added {z : Nat} {w W W' : World} {rb tb lb : Nat} {c : Int} {o g : Nat} {kd : Int} {a : Nat} {Lr : List Tk} {v v' : Value} {ts us : List (Tm × Value)} (h : CaS z w W rb tb lb c o g kd a Lr v ts) (p : PaO (g + 1) z W' v' us) (k : Below (g + 1) W W') : CaS z w (W'.setCell ⟨g, 5, none⟩ v') rb tb lb c o g kd a Lr v' us := by
  have h1 := h.gg
  have h2 := h.hr
  exact ⟨(h.rs.later k (by omega)).other (by omega), (h.lt.later k (by omega)).set 5 (by simp) v', p.turn (turn_set W' g 5 v') (by simp), (h.re.later k (by omega)).turn1 (turn_set W' g 5 v') (by omega), (turn_later h.tn k (by omega)).andSet _ _ (.inr (by show w.heap.size ≤ g; omega)), h1, h2⟩
theorem PaO.blk {B z : Nat} {w : World} {v : Value} {ts : List (Tm × Value)} (h : PaO B z w v ts) (g : Nat) (hg : v.ownBlock = some g) : B ≤ g ∧ g < w.heap.size := h.own.lt g hg
/-- What was read last lies behind the row. -/
theorem sit_apart {B C z : Nat} {w : World} {v : Value} {t : Tm} {u : Value} (h : SitB C z w t u) (hB : B ≤ C) (hv : ∀ g, v.ownBlock = some g → g < C) : SitQ (fun b => B ≤ b ∧ v.ownBlock ≠ some b) z w t u :=
  h.weak (fun b _ hq => ⟨Nat.le_trans hB hq, fun he => by have := hv b he; omega⟩)
theorem moreP_succ (c : Int) (E : Ps) (n : Nat) (ps : List Tm) (L : List Tk) : moreP c E (n + 1) ps L = bnd (mustS c k_com L) fun a => bnd (E a.2) fun y => moreP c E n (ps ++ [y.1]) y.2 := rfl
set_option maxHeartbeats 4000000 in
set_option maxRecDepth 20000 in
theorem call_c {z rb tb lb : Nat} {c : Int} {L : List Tk} {o : Nat} (hz : z ≤ 9223372036854775807) {X : Option Ps} (HX : InC z rb tb lb c o X) {t0 : Tk} (hx : nxt c L = .ok t0) (hm : isT t0.text t0 = true) (kd : Int) (hk0 : 0 ≤ kd) (hk1 : kd ≤ 100) (n : Nat) (hn : n ≤ 2) (w : World) (hr : Rea z w rb tb lb c L o) :
    Calls Tryz.prog 127 #[.pointer (some ⟨rb, 0, none⟩), .string t0.text, .int .i64 kd, .int .i64 ((n : Nat) + 1)] w (Out (VTm w.heap.size z) z w rb tb lb c o (callP c X kd n t0.at_ L.tail)) := by
  obtain ⟨pr, hpr⟩ : ∃ pr, Hid (pr = callP c X kd n t0.at_ L.tail) := ⟨_, rfl⟩
  rw [← hpr.out]
  have hE : Hid (∀ f w', pr = .error f → Turn [rb] w w' → Out (VTm w.heap.size z) z w rb tb lb c o pr (.panicked [fltE f]) w') := fun f w' h ht => Out.mk_err h ht
  have hO : Hid (∀ t L' w' v u, pr = .ok (t, L') → Turn [rb] w w' → v = tmV t u → SitB w.heap.size z w' t u → Rea z w' rb tb lb c L' o → Out (VTm w.heap.size z) z w rb tb lb c o pr (.returned v) w') := fun t L' w' v u h ht hv hs hr' => Out.mk_ok h ht ⟨u, hv, hs⟩ hr'
  generalize Out (VTm w.heap.size z) z w rb tb lb c o pr = Post at *
  have hL := hr.lts
  have hne : w.heap.size ∉ [rb] := by simp; omega
  have hok := hr.tl.ok
  rw [← nxt_inv hx] at hok
  have hm1 := mustS_of hx hm
  have Z0 := Box.new w zs6 33
  go_enter Tryz.func127, Tryz.ntmps127
  go_wp2_with fail
  have T0 := tnO (ob := .cells (zs6).toArray 33) (Turn.refl [rb] w)
  have r0 := hr.onO (ob := .cells (zs6).toArray 33)
  have Rs0 := Z0
  have zsz : w.heap.size < (w.alloc (.cells (zs6).toArray 33)).heap.size := by simp
  clear Z0
  generalize hW0 : w.alloc _ = w0 at *
  clear hW0
  clear hr
  refine Calls.mono (must_c t0.text _ r0) ?_
  rintro e w1 h1
  obtain ⟨t1, _, rfl, rfl, r1⟩ := Out.of_ok hm1 h1
  have Rs1 := Rs0.turn t1 hne
  have T1 := tn T0 t1
  have s1 := t1.size
  clear Rs0 T0 r0 h1 t1
  go_wp2_with fail
  refine Calls.mono (term_c _ _ _ _ _ _) ?_
  rintro e w2 ⟨rfl, b2⟩
  have t2 := Turn.of_below (S := [rb]) b2
  have r2 := r1.next b2
  have Rs2 := Rs1.turn t2 hne
  have T2 := tn T1 t2
  have s2 := t2.size
  clear Rs1 T1 r1 b2 t2
  go_wp2_with fail
  have t3 := tnO (ob := .cells ([.int .i64 kd, .string ⟨#[]⟩, .int .i64 0, .int .i64 0, .int .i64 (t0.at_ : Nat), .slice none 0 0]).toArray 33) (Turn.refl [rb] w2)
  have r3 := r2.onO (ob := .cells ([.int .i64 kd, .string ⟨#[]⟩, .int .i64 0, .int .i64 0, .int .i64 (t0.at_ : Nat), .slice none 0 0]).toArray 33)
  have Lt3 := Box.new w2 [.int .i64 kd, .string ⟨#[]⟩, .int .i64 0, .int .i64 0, .int .i64 (t0.at_ : Nat), .slice none 0 0] 33
  have hnLt : w2.heap.size ∉ [rb] := by simp; omega
  have hxLt : w2.heap.size < (w2.alloc (.cells ([.int .i64 kd, .string ⟨#[]⟩, .int .i64 0, .int .i64 0, .int .i64 (t0.at_ : Nat), .slice none 0 0]).toArray 33)).heap.size := by simp
  have Rs3 := Rs2.turn t3 hne
  have T3 := tn T2 t3
  have s3 := t3.size
  clear Rs2 T2 r2 t3
  generalize hW3 : w2.alloc _ = w3 at *
  clear hW3
  rw [callP] at hpr
  refine Calls.mono (begin_c k_lp _ r3) ?_
  rintro e w4 h4
  rcases hy1 : mustS c k_lp L.tail with f | y
  · obtain ⟨rfl, t4⟩ := beg_err hy1 h4
    go_wp2_with fail
    exact ⟨rfl, hE.out _ _ (by rw [hpr.out, beginP, hy1]; rfl) (tn T3 t4)⟩
  rcases X with _ | E
  · obtain ⟨rfl, t4⟩ := beg_deep hy1 (HX.no rfl) h4
    go_wp2_with fail
    exact ⟨rfl, hE.out _ _ (by rw [hpr.out, beginP, hy1]; rfl) (tn T3 t4)⟩
  obtain ⟨rfl, t4, r4⟩ := beg_ok hy1 (HX.yes E rfl).1 h4
  have Rs4 := Rs3.turn t4 hne
  have Lt4 := Lt3.turn t4 hnLt
  have T4 := tn T3 t4
  have s4 := t4.size
  clear Rs3 Lt3 T3 r3 h4 t4
  have hpr1 : Hid (pr = bnd (E y.2) fun y => bnd (moreP c E n [y.1] y.2) fun z => closeP c k_rp (tm kd t0.at_ z.1, z.2)) := by show _ = _; rw [hpr.out, beginP, hy1]; rfl
  obtain ⟨ho64, HEx, hDec⟩ := HX.yes E rfl
  have C : CaS z w w4 rb tb lb c (o + 1) (w2.heap.size) kd t0.at_ y.2 (.slice none 0 0) [] := ⟨Rs4, Lt4, PaO.nil _ _ _, r4, T4, by omega, hL⟩
  clear Rs4 Lt4 T4 r4
  generalize w2.heap.size = g at *
  have c5 := C.lt.cell 5 _ rfl
  have l5 := C.lt.lt
  generalize hW : w4 = W0 at *
  obtain ⟨v0, hv0⟩ : ∃ v : Value, v = .slice none 0 0 := ⟨_, rfl⟩
  rw [← hv0] at C c5
  clear hv0
  go_wp2_with fail
  go_region_law (first
    | (refine step_out rfl (HEx _ _ (C.re.next (Below.refl _ _).drew)) (by first | rfl | go_simp) (fun fl w' hf ht => ⟨rfl, hE.out _ _ (by rw [hpr1.out, hf]; rfl) (tn C.tn (tn (Turn.of_below (Below.refl _ _).drew) ht))⟩) ?_; rintro x50 _ w50 hy50 t50 ⟨u50, rfl, S50⟩ r50; have z50 : Hid (W0.heap.size ≤ w50.heap.size) := t50.size; have C50 := hid2 ((C.next (Below.refl _ _).drew).turn t50 r50); have q50 := hid2 (C.next (Below.refl _ W0).drew).pa.blk; have c550 := C50.out.lt.cell 5 _ rfl; have l550 := C50.out.lt.lt; have X50 := hid2 S50; clear S50 t50 r50)
    | (refine step_append_tm w50 (g + 1) rfl (.tmp 18) (.tmp 21) rfl v0 [] [(x50.1, u50)] rfl (by simp [Act.eval]) C50.out.pa (fun p hp => by obtain rfl := List.mem_singleton.1 hp; exact sit_apart X50.out (by have := C.lt.lt; simp <;> omega) (fun g' hg' => (q50.out g' hg').2)) (by simp <;> omega) (by have := C.lt.lt; have := z50.out; omega) (by simp [Act.eval]) ?_; intro a50 d50 wa50 p50 b50; have CA50 := hid2 (C50.out.added p50 b50); have l50 := ((C50.out.lt.later b50 (by omega))).lt; have e550 := (C50.out.lt.later b50 (by omega)).cell 5 _ rfl; have f550 := (C50.out.lt.later b50 (by omega)).free 5 (by simp); clear p50 b50))
  all_goals (
    have hpr2 : Hid (pr = bnd (moreP c E (n - 0) ([(x50.1, u50)].map Prod.fst) x50.2) fun z => closeP c k_rp (tm kd t0.at_ z.1, z.2)) := by show _ = _; rw [hpr1.out, hy50]; rfl
    have CA := CA50
    clear CA50 C50 c550 l550 q50 X50 z50 l50 e550 f550 C c5 l5
    generalize hW1 : wa50.setCell _ _ = W1 at *
    clear hW1
    go_wp2_with fail
    go_loopw [26] (fun p wr => ∃ (j : Nat) (Lr : List Tk) (v : Value) (ts : List (Tm × Value)), p = .int .i64 j ∧ j ≤ n ∧ ts.length = j + 1 ∧ Hid (CaS z w wr rb tb lb c (o + 1) g kd t0.at_ Lr v ts) ∧ Hid (pr = bnd (moreP c E (n - j) (ts.map Prod.fst) Lr) fun z => closeP c k_rp (tm kd t0.at_ z.1, z.2))) (fun p _ => n - (RowKit.intOf p).toNat)
    · exact ⟨0, _, _, _, rfl, Nat.zero_le _, rfl, CA, hpr2⟩
    obtain ⟨j, Lr, v, ts, rfl, hj, hts, HC, HQ⟩ := hrel
    have HTS := hid2 hts
    have hlen : ts.length ≤ 3 := by omega
    clear hts
    by_cases hlt : j < n
    · have hlt' : (j : Int) < (n : Int) := by omega
      have hpr3 : Hid (pr = bnd (mustS c k_com Lr) fun a => bnd (E a.2) fun y => bnd (moreP c E (n - (j + 1)) (ts.map Prod.fst ++ [y.1]) y.2) fun z => closeP c k_rp (tm kd t0.at_ z.1, z.2)) := by
        show _ = _
        rw [HQ.out, show n - j = (n - (j + 1)) + 1 by omega, moreP_succ]
        cases mustS c k_com Lr with
        | error f => rfl
        | ok a => 
          simp only [bnd_ok]
          cases E a.2 with
          | error f => rfl
          | ok y => rfl
      clear HQ CA hpr2
      go_wp2_with fail
      refine Calls.mono (must_c k_com _ HC.out.re) ?_
      rintro e w1 h1
      rcases hym : mustS c k_com Lr with f | ym
      · obtain ⟨rfl, t1⟩ := Out.of_err hym h1
        go_wp2_with fail
        exact ⟨rfl, hE.out _ _ (by rw [hpr3.out, hym]; rfl) (tn HC.out.tn t1)⟩
      obtain ⟨t1, _, rfl, rfl, r1⟩ := Out.of_ok hym h1
      have C2 := HC.out.turn t1 r1
      have hpr4 : Hid (pr = bnd (E ym.2) fun y => bnd (moreP c E (n - (j + 1)) (ts.map Prod.fst ++ [y.1]) y.2) fun z => closeP c k_rp (tm kd t0.at_ z.1, z.2)) := by show _ = _; rw [hpr3.out, hym]; rfl
      have c5 := C2.lt.cell 5 _ rfl
      have l5 := C2.lt.lt
      clear HC hpr3 h1 t1 r1
      generalize hW2 : w1 = W2 at *
      clear hW2
      go_wp2_with fail
      go_region_law (first
        | (refine step_out rfl (HEx _ _ (C2.re.next (Below.refl _ _).drew)) (by first | rfl | go_simp) (fun fl w' hf ht => ⟨rfl, hE.out _ _ (by rw [hpr4.out, hf]; rfl) (tn C2.tn (tn (Turn.of_below (Below.refl _ _).drew) ht))⟩) ?_; rintro x60 _ w60 hy60 t60 ⟨u60, rfl, S60⟩ r60; have z60 : Hid (W2.heap.size ≤ w60.heap.size) := t60.size; have C60 := hid2 ((C2.next (Below.refl _ _).drew).turn t60 r60); have q60 := hid2 (C2.next (Below.refl _ W2).drew).pa.blk; have c560 := C60.out.lt.cell 5 _ rfl; have l560 := C60.out.lt.lt; have X60 := hid2 S60; clear S60 t60 r60)
        | (refine step_append_tm w60 (g + 1) rfl (.tmp 31) (.tmp 34) rfl v ts [(x60.1, u60)] rfl (by simp [Act.eval]) C60.out.pa (fun p hp => by obtain rfl := List.mem_singleton.1 hp; exact sit_apart X60.out (by have := C2.lt.lt; simp <;> omega) (fun g' hg' => (q60.out g' hg').2)) (by simp <;> omega) (by have := C2.lt.lt; have := z60.out; omega) (by simp [Act.eval]) ?_; intro a60 d60 wa60 p60 b60; have CA60 := hid2 (C60.out.added p60 b60); have l60 := ((C60.out.lt.later b60 (by omega))).lt; have e560 := (C60.out.lt.later b60 (by omega)).cell 5 _ rfl; have f560 := (C60.out.lt.later b60 (by omega)).free 5 (by simp); clear p60 b60))
      all_goals go_wp2_with fail
      all_goals go_roundw
      all_goals first
        | (refine ⟨j + 1, _, _, _, by simp, hlt, by simp [HTS.out], CA60, ?_⟩
           show _ = _
           rw [hpr4.out, hy60, List.map_append]
           rfl)
        | (simp [RowKit.intOf]; omega)
    · have hjn : j = n := by omega
      subst hjn
      clear hlt hpr2 CA
      have hpr3 : Hid (pr = bnd (mustS c k_rp Lr) fun a => .ok (tm kd t0.at_ (ts.map Prod.fst), a.2)) := by
        show _ = _
        rw [HQ.out, Nat.sub_self]
        rfl
      go_wp2_with fail
      refine Calls.mono (close_c k_rp _ HC.out.re) ?_
      rintro e w1 h1
      rcases hym : mustS c k_rp Lr with f | ym
      · obtain ⟨rfl, t1⟩ := Out.of_err hym h1
        go_wp2_with fail
        exact ⟨rfl, hE.out _ _ (by rw [hpr3.out, hym]; rfl) (tn HC.out.tn t1)⟩
      obtain ⟨t1, _, rfl, rfl, r1⟩ := Out.of_ok hym h1
      have hg0 := HC.out.gg
      have hne2 : g ∉ [rb] := by simp; omega
      obtain ⟨p0, p1, p2, p3, p4, p5, q0, q1, q2, q3, q4, q5⟩ := (HC.out.rs.turn t1 hne).six
      obtain ⟨x0, x1, x2, x3, x4, x5, y0, y1, y2, y3, y4, y5⟩ := (HC.out.lt.turn t1 hne2).six
      have xl := (HC.out.lt.turn t1 hne2).lt
      have pl := (HC.out.rs.turn t1 hne).lt
      have PA := HC.out.pa.turn t1 (by simp; omega)
      have T1 := tn HC.out.tn t1
      obtain ⟨av, cv, rfl⟩ := PA.val
      have HPA := hid2 PA
      clear HC h1 t1 PA
      have hg1 : g ≠ w.heap.size := by omega
      go_wp2_with fail
      refine bodyPost_ret (v := tmV (tm kd t0.at_ (ts.map Prod.fst)) (.slice av ts.length cv)) (by simp [results, Tryz.results127, go_sem, *]) rfl (hO.out (tm kd t0.at_ (ts.map Prod.fst)) ym.2 _ _ (.slice av ts.length cv) (by rw [hpr3.out, hym]; rfl) ?_ rfl ?_ ?_)
      · exact T1.trans (turn_six _ _ _ _ _ _ _ _) (fun i hi => .inr (by simp at hi; omega))
      · exact SitB.lower ((HPA.out.turn (turn_six _ _ _ _ _ _ _ _) (by simp; omega)).sits (fit_of _ _ _ _ _ _ hz hk0 hk1 (Nat.zero_le _) zero64 zero64 hok.a) rfl) (by omega)
      · exact r1.turn1 (turn_six _ _ _ _ _ _ _ _) hL)
end Go.Proofs.YtecdfnpbcabdnaaGreatDoor

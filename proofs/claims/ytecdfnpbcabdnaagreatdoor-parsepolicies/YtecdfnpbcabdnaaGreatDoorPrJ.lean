/- The document's reader in memory: inside, of schedules and windows. -/
import Derived.Test.YtecdfnpbcabdnaaGreatDoorPrI
namespace Go.Proofs.YtecdfnpbcabdnaaGreatDoor
open Go.RowKit Go.Lib

theorem must_bad {c : Int} {x : ByteArray} {S : Sr} (h : S.good = false) : mustR c x S = S := by unfold mustR; rw [if_neg (by rw [bad_is h]; simp), bad_wr h]
theorem take_bad {c k : Int} {S : Sr} (h : S.good = false) : takeR c k S = (tk0, S) := by unfold takeR; rw [if_neg (by rw [h]; simp)]
/-- Behind the bracket: one more is open, or all is in vain. -/
def Opn (z rb tb : Nat) (LL : List Tk) (c : Int) (o : Nat) (X : Option Rdf) (o1 : Nat) (S1 : Sr) : Prop := (o1 = o + 1 ∧ ∃ E, X = some E ∧ RdC z rb tb LL c (o + 1) 22 E) ∨ (o1 = 64 ∧ o = 64 ∧ X = none ∧ S1.good = false)
theorem openR_full {c : Int} {x : ByteArray} {S : Sr} : (openR c x true S).good = false := by rw [open_full]; exact wr_good
theorem open_any {z rb tb : Nat} {LL : List Tk} {c : Int} {o : Nat} {X : Option Rdf} (HX : InQ z rb tb LL c o X) {S : Sr} (w : World) (hr : Rr z w rb tb LL c S o) : Calls Tryz.prog 16 #[.pointer (some ⟨rb, 0, none⟩), .string k_lp] w fun e w' => ∃ o1, WrP z w rb tb LL c (openR c k_lp X.isNone S) o1 e w' ∧ Opn z rb tb LL c o X o1 (openR c k_lp X.isNone S) := by
  rcases HX with ⟨rfl, rfl⟩ | ⟨ho, E, rfl, HE⟩
  · exact (qMustLpF_c w hr).mono fun e w' h => ⟨64, h, .inr ⟨rfl, rfl, rfl, openR_full⟩⟩
  · exact (qMustLp_c ho w hr).mono fun e w' h => ⟨o + 1, h, .inl ⟨rfl, E, rfl, HE⟩⟩
theorem close_any {z rb tb : Nat} {LL : List Tk} {c : Int} {o o1 : Nat} {X : Option Rdf} {S : Sr} (h : Opn z rb tb LL c o X o1 S) (w : World) (hr : Rr z w rb tb LL c S o1) : Calls Tryz.prog 16 #[.pointer (some ⟨rb, 0, none⟩), .string k_rp] w (WrP z w rb tb LL c (mustR c k_rp S) o) := by
  rcases h with ⟨rfl, _⟩ | ⟨rfl, rfl, _, hb⟩
  · exact qMustRp_c w hr
  · refine (qMustRp_c (o := 63) w (hr.any hb (by omega))).mono ?_
    rintro e w' ⟨h1, h2, h3⟩
    exact ⟨h1, h2, h3.any (by rw [must_bad hb]; exact hb) (by omega)⟩
theorem Opn.to {z rb tb : Nat} {LL : List Tk} {c : Int} {o o1 : Nat} {X : Option Rdf} {S S' : Sr} (h : Opn z rb tb LL c o X o1 S) (hb : S.good = false → S'.good = false) : Opn z rb tb LL c o X o1 S' := by
  rcases h with h | ⟨h1, h2, h3, h4⟩
  · exact .inl h
  · exact .inr ⟨h1, h2, h3, hb h4⟩
/-- inside, under way. -/
structure InS (z : Nat) (w W : World) (rb tb : Nat) (LL : List Tk) (c : Int) (o : Nat) (q : Cl) (S : Sr) (vs : List Value) : Prop where
  re : Rr z W rb tb LL c S o
  tn : Turn [rb] w W
  ca : Box W w.heap.size [.string q.1, .int .i64 q.2.1, .int .i64 q.2.2]
  rs : Box W (w.heap.size + 1) zs6
  gx : Box W (w.heap.size + 1 + 1) vs
  rl : rb < w.heap.size ∧ tb < w.heap.size
theorem InS.turn {z : Nat} {w W W' : World} {rb tb : Nat} {LL : List Tk} {c : Int} {o o' : Nat} {q : Cl} {S S' : Sr} {vs : List Value} (h : InS z w W rb tb LL c o q S vs) (k : Turn [rb] W W') (r : Rr z W' rb tb LL c S' o') : InS z w W' rb tb LL c o' q S' vs := by
  have hl := h.rl
  exact ⟨r, turn_one h.tn k, h.ca.turn k (by simp; omega), h.rs.turn k (by simp; omega), h.gx.turn k (by simp; omega), hl⟩
theorem InS.next {z : Nat} {w W W' : World} {rb tb : Nat} {LL : List Tk} {c : Int} {o : Nat} {q : Cl} {S : Sr} {vs : List Value} (h : InS z w W rb tb LL c o q S vs) (k : Below W.heap.size W W') : InS z w W' rb tb LL c o q S vs := h.turn (Turn.of_below k) (h.re.next k)
theorem InS.set {z : Nat} {w W : World} {rb tb : Nat} {LL : List Tk} {c : Int} {o : Nat} {q : Cl} {S : Sr} {vs : List Value} (h : InS z w W rb tb LL c o q S vs) (j : Nat) (hj : j < vs.length) (v : Value) : InS z w (W.setCell ⟨w.heap.size + 1 + 1, j, none⟩ v) rb tb LL c o q S (vs.set j v) := by
  have hl := h.rl
  have k := turn_set W (w.heap.size + 1 + 1) j v
  exact ⟨h.re.turn k (by simp; omega) (by simp; omega), h.tn.andSet _ _ (.inr (by simp; omega)), h.ca.turn k (by simp; omega), h.rs.turn k (by simp), h.gx.set j hj v, hl⟩
theorem InS.made {z : Nat} {w : World} {rb tb : Nat} {LL : List Tk} {c : Int} {o : Nat} {S : Sr} (h : Rr z w rb tb LL c S o) (q : Cl) (a : Nat) : InS z w (((w.alloc (.cells ([.string q.1, .int .i64 q.2.1, .int .i64 q.2.2] : List Value).toArray 194)).alloc (.cells zs6.toArray 33)).alloc (.cells (tmQ ⟨q.2.1, ⟨#[]⟩, 0, 0, (a : Int), []⟩ (.slice none 0 0)).toArray 33)) rb tb LL c o q S (tmQ ⟨q.2.1, ⟨#[]⟩, 0, 0, (a : Int), []⟩ (.slice none 0 0)) := by
  obtain ⟨X0, X1, X2, XB⟩ := three_boxes w 194 33 33 [.string q.1, .int .i64 q.2.1, .int .i64 q.2.2] zs6 (tmQ ⟨q.2.1, ⟨#[]⟩, 0, 0, (a : Int), []⟩ (.slice none 0 0))
  exact ⟨h.next XB, Turn.of_below XB, X0, X1, X2, h.lts⟩
theorem Box.trio {w : World} {g : Nat} {v0 v1 v2 : Value} (h : Box w g [v0, v1, v2]) : w.cell? ⟨g, 0, none⟩ = some v0 ∧ w.cell? ⟨g, 1, none⟩ = some v1 ∧ w.cell? ⟨g, 2, none⟩ = some v2 := ⟨h.cell 0 _ rfl, h.cell 1 _ rfl, h.cell 2 _ rfl⟩
/-- A leaf is given back. -/
theorem InS.back {z : Nat} {w W : World} {rb tb : Nat} {LL : List Tk} {c : Int} {o : Nat} {q : Cl} {S : Sr} {vs : List Value} {x : Tm} (h : InS z w W rb tb LL c o q S vs) (hf : Fit z x) (hp : x.parts = []) (v0 v1 v2 v3 v4 v5 : Value) :
    let W' := (((((W.setCell ⟨w.heap.size + 1, 0, none⟩ v0).setCell ⟨w.heap.size + 1, 1, none⟩ v1).setCell ⟨w.heap.size + 1, 2, none⟩ v2).setCell ⟨w.heap.size + 1, 3, none⟩ v3).setCell ⟨w.heap.size + 1, 4, none⟩ v4).setCell ⟨w.heap.size + 1, 5, none⟩ v5
    Turn [rb] w W' ∧ Rr z W' rb tb LL c S o ∧ SitB w.heap.size z W' x (.slice none 0 0) := by
  intro W'
  have hl := h.rl
  have k6 := turn_six W (w.heap.size + 1) v0 v1 v2 v3 v4 v5
  exact ⟨h.tn.trans k6 (fun i hi => .inr (by simp at hi; omega)), h.re.turn k6 (by simp; omega) (by simp; omega), sitb_leaf hf hp⟩
set_option maxHeartbeats 16000000 in
set_option maxRecDepth 20000 in
theorem qInCron_c {z rb tb : Nat} {LL : List Tk} {c : Int} {o : Nat} (hz : z ≤ 9223372036854775807) {X : Option Rdf} (HX : InQ z rb tb LL c o X) (q : Cl) (hn : q.2.2 = -1) (hk : q.2.1 = 6) (a : Nat) (ha : a ≤ z) (S : Sr) (w : World) (hr : Rr z w rb tb LL c S o) :
    Calls Tryz.prog 165 #[.pointer (some ⟨rb, 0, none⟩), .agg #[.string q.1, .int .i64 q.2.1, .int .i64 q.2.2], .int .i64 (a : Nat)] w (QtP w.heap.size z w rb tb LL c o (cronR c X.isNone a S)) := by
  have HX0 := hid2 HX
  have hz0 := hid2 hz
  have ha0 := hid2 ha
  obtain ⟨R, hR⟩ : ∃ R, Hid (R = cronR c X.isNone a S) := ⟨_, rfl⟩
  rw [← hR.out]
  have hP : Hid (∀ w' t u S', Turn [rb] w w' ∧ Rr z w' rb tb LL c S' o ∧ SitB w.heap.size z w' t u → R = (t, S') → QtP w.heap.size z w rb tb LL c o R (.returned (tmV t u)) w') := fun w' t u S' h h3 => ⟨h.1, ⟨_, rfl, u, by rw [h3], by rw [h3]; exact h.2.2⟩, by rw [h3]; exact h.2.1⟩
  generalize QtP w.heap.size z w rb tb LL c o R = Post at *
  have HC0 := hid2 (InS.made hr q a)
  clear HX hz ha hr
  obtain ⟨xq, kq, nq⟩ := q
  simp only at *
  subst hn hk
  unfold cronR at hR
  go_enter Tryz.func165, Tryz.ntmps165
  go_wp2_with fail
  refine Calls.mono (open_any HX0.out _ HC0.out.re) ?_
  rintro e w1 ⟨o1, ⟨rfl, t1, r1⟩, HO⟩
  have HC1 := hid2 (HC0.out.turn t1 r1)
  have HO1 := hid2 HO
  clear HC0 t1 r1 HO HX0
  obtain ⟨c0, c1, c2⟩ := HC1.out.ca.trio
  have cl := HC1.out.ca.lt
  obtain ⟨g0, g1, g2, g3, g4, g5, h0, h1, h2, h3, h4, h5⟩ := HC1.out.gx.six
  have gl := HC1.out.gx.lt
  go_wp2_with fail
  have fd1 := fld1
  have fd2 := fld2
  go_loopw [8] (fun p wr => p = .int .i64 0 ∧ wr = w1) (fun _ _ => 0)
  · exact ⟨rfl, rfl⟩
  obtain ⟨rfl, rfl⟩ := hrel
  go_wp2_with fail
  refine Calls.mono (qTake_c 4 (by decide) _ HC1.out.re) ?_
  rintro e w2 ⟨rfl, ta, ra⟩
  have Hk2 := hid2 (take_tk (c := c) (k := 4) HC1.out.re.tl)
  have HC2a := hid2 (HC1.out.turn ta ra)
  have HO2 := hid2 (HO1.out.to (S' := (takeR c 4 (openR c k_lp X.isNone S)).2) (fun h => by rw [take_bad h]; exact h))
  clear ta ra HC1 HO1 c0 c1 c2 cl g0 g1 g2 g3 g4 g5 h0 h1 h2 h3 h4 h5 gl
  obtain ⟨c0, c1, c2⟩ := HC2a.out.ca.trio
  have cl := HC2a.out.ca.lt
  obtain ⟨g0, g1, g2, g3, g4, g5, h0, h1, h2, h3, h4, h5⟩ := HC2a.out.gx.six
  have gl := HC2a.out.gx.lt
  have HC2 := hid2 (HC2a.out.set 1 (by simp) (.string (takeR c 4 (openR c k_lp X.isNone S)).1.text))
  simp only [tkW]
  go_wp2_with fail
  refine Calls.mono (close_any HO2.out _ HC2.out.re) ?_
  rintro e w3 ⟨rfl, ta, ra⟩
  have HC3 := hid2 (HC2.out.turn ta ra)
  clear ta ra HC2 HO2 c0 c1 c2 cl g0 g1 g2 g3 g4 g5 h0 h1 h2 h3 h4 h5 gl HC2a
  obtain ⟨g0, g1, g2, g3, g4, g5, h0, h1, h2, h3, h4, h5⟩ := HC3.out.gx.six
  have gl := HC3.out.gx.lt
  obtain ⟨x0, x1, x2, x3, x4, x5, y0, y1, y2, y3, y4, y5⟩ := HC3.out.rs.six
  have xl := HC3.out.rs.lt
  go_wp2_with fail
  refine bodyPost_ret (v := tmV ⟨6, (takeR c 4 (openR c k_lp X.isNone S)).1.text, 0, 0, (a : Int), []⟩ (.slice none 0 0)) (by simp [results, Tryz.results165, go_sem, *]) rfl (hP.out _ _ _ (mustR c k_rp (takeR c 4 (openR c k_lp X.isNone S)).2) ?_ hR.out)
  exact HC3.out.back (fit_of _ _ _ _ _ _ hz0.out (by decide) (by decide) Hk2.out.1 zero64 zero64 ha0.out) rfl _ _ _ _ _ _
set_option maxHeartbeats 16000000 in
set_option maxRecDepth 20000 in
theorem qInWin_c {z rb tb : Nat} {LL : List Tk} {c : Int} {o : Nat} (hz : z ≤ 9223372036854775807) {X : Option Rdf} (HX : InQ z rb tb LL c o X) (q : Cl) (hn : q.2.2 = 0) (hk : q.2.1 ≠ 12) (hk1 : 0 ≤ q.2.1 ∧ q.2.1 ≤ 100) (a : Nat) (ha : a ≤ z) (S : Sr) (w : World) (hr : Rr z w rb tb LL c S o) :
    Calls Tryz.prog 165 #[.pointer (some ⟨rb, 0, none⟩), .agg #[.string q.1, .int .i64 q.2.1, .int .i64 q.2.2], .int .i64 (a : Nat)] w (QtP w.heap.size z w rb tb LL c o (winR c X.isNone q.2.1 a S)) := by
  have HX0 := hid2 HX
  have hz0 := hid2 hz
  have ha0 := hid2 ha
  obtain ⟨R, hR⟩ : ∃ R, Hid (R = winR c X.isNone q.2.1 a S) := ⟨_, rfl⟩
  rw [← hR.out]
  have hP : Hid (∀ w' t u S', Turn [rb] w w' ∧ Rr z w' rb tb LL c S' o ∧ SitB w.heap.size z w' t u → R = (t, S') → QtP w.heap.size z w rb tb LL c o R (.returned (tmV t u)) w') := fun w' t u S' h h3 => ⟨h.1, ⟨_, rfl, u, by rw [h3], by rw [h3]; exact h.2.2⟩, by rw [h3]; exact h.2.1⟩
  generalize QtP w.heap.size z w rb tb LL c o R = Post at *
  have HC0 := hid2 (InS.made hr q a)
  clear HX hz ha hr
  obtain ⟨xq, kq, nq⟩ := q
  simp only at *
  subst hn
  have kk : (kq == 12) = false := by simpa using hk
  unfold winR at hR
  rw [if_neg hk] at hR
  go_enter Tryz.func165, Tryz.ntmps165
  go_wp2_with fail
  refine Calls.mono (open_any HX0.out _ HC0.out.re) ?_
  rintro e w1 ⟨o1, ⟨rfl, t1, r1⟩, HO⟩
  have HC1 := hid2 (HC0.out.turn t1 r1)
  have HO1 := hid2 HO
  clear HC0 t1 r1 HO HX0
  obtain ⟨c0, c1, c2⟩ := HC1.out.ca.trio
  have cl := HC1.out.ca.lt
  obtain ⟨g0, g1, g2, g3, g4, g5, h0, h1, h2, h3, h4, h5⟩ := HC1.out.gx.six
  have gl := HC1.out.gx.lt
  go_wp2_with fail
  have fd1 := fld1
  have fd2 := fld2
  go_loopw [8] (fun p wr => p = .int .i64 0 ∧ wr = w1) (fun _ _ => 0)
  · exact ⟨rfl, rfl⟩
  obtain ⟨rfl, rfl⟩ := hrel
  go_wp2_with fail
  refine Calls.mono (qTake_c 1 (by decide) _ HC1.out.re) ?_
  rintro e w2 ⟨rfl, ta, ra⟩
  have Hk2 := hid2 (take_tk (c := c) (k := 1) HC1.out.re.tl)
  have HC2a := hid2 (HC1.out.turn ta ra)
  have HO2 := hid2 (HO1.out.to (S' := (takeR c 1 (openR c k_lp X.isNone S)).2) (fun h => by rw [take_bad h]; exact h))
  clear ta ra HC1 HO1 c0 c1 c2 cl g0 g1 g2 g3 g4 g5 h0 h1 h2 h3 h4 h5 gl
  obtain ⟨c0, c1, c2⟩ := HC2a.out.ca.trio
  have cl := HC2a.out.ca.lt
  obtain ⟨g0, g1, g2, g3, g4, g5, h0, h1, h2, h3, h4, h5⟩ := HC2a.out.gx.six
  have gl := HC2a.out.gx.lt
  have HC2 := hid2 (HC2a.out.set 1 (by simp) (.string (takeR c 1 (openR c k_lp X.isNone S)).1.text))
  simp only [tkW]
  go_wp2_with fail
  refine Calls.mono (qMust_c k_com ⟨ba_neL [40] (by decide), ba_neL [123] (by decide), ba_neL [41] (by decide), ba_neL [125] (by decide)⟩ _ HC2.out.re) ?_
  rintro e w3 ⟨rfl, ta, ra⟩
  have HC3 := hid2 (HC2.out.turn ta ra)
  have HO3 := hid2 (HO2.out.to (S' := mustR c k_com ((takeR c 1 (openR c k_lp X.isNone S)).2)) (fun h => by rw [must_bad h]; exact h))
  clear ta ra HC2 HO2 c0 c1 c2 cl g0 g1 g2 g3 g4 g5 h0 h1 h2 h3 h4 h5 gl HC2a
  obtain ⟨c0, c1, c2⟩ := HC3.out.ca.trio
  have cl := HC3.out.ca.lt
  obtain ⟨g0, g1, g2, g3, g4, g5, h0, h1, h2, h3, h4, h5⟩ := HC3.out.gx.six
  have gl := HC3.out.gx.lt
  go_wp2_with fail
  refine Calls.mono (qTake_c 3 (by decide) _ HC3.out.re) ?_
  rintro e w4 ⟨rfl, ta, ra⟩
  have Hk4 := hid2 (take_tk (c := c) (k := 3) HC3.out.re.tl)
  have HC4a := hid2 (HC3.out.turn ta ra)
  have HO4 := hid2 (HO3.out.to (S' := (takeR c 3 (mustR c k_com (takeR c 1 (openR c k_lp X.isNone S)).2)).2) (fun h => by rw [take_bad h]; exact h))
  clear ta ra HC3 HO3 c0 c1 c2 cl g0 g1 g2 g3 g4 g5 h0 h1 h2 h3 h4 h5 gl
  obtain ⟨c0, c1, c2⟩ := HC4a.out.ca.trio
  have cl := HC4a.out.ca.lt
  obtain ⟨g0, g1, g2, g3, g4, g5, h0, h1, h2, h3, h4, h5⟩ := HC4a.out.gx.six
  have gl := HC4a.out.gx.lt
  have HC4 := hid2 (HC4a.out.set 2 (by simp) (.int .i64 (takeR c 3 (mustR c k_com (takeR c 1 (openR c k_lp X.isNone S)).2)).1.n))
  simp only [tkW]
  go_wp2_with fail
  refine Calls.mono (close_any HO4.out _ HC4.out.re) ?_
  rintro e w9 ⟨rfl, ta, ra⟩
  have HC9 := hid2 (HC4.out.turn ta ra)
  clear ta ra HC4 HO4 c0 c1 c2 cl g0 g1 g2 g3 g4 g5 h0 h1 h2 h3 h4 h5 gl HC4a
  obtain ⟨g0, g1, g2, g3, g4, g5, h0, h1, h2, h3, h4, h5⟩ := HC9.out.gx.six
  have gl := HC9.out.gx.lt
  obtain ⟨x0, x1, x2, x3, x4, x5, y0, y1, y2, y3, y4, y5⟩ := HC9.out.rs.six
  have xl := HC9.out.rs.lt
  go_wp2_with fail
  refine bodyPost_ret (v := tmV ⟨kq, (takeR c 1 (openR c k_lp X.isNone S)).1.text, (takeR c 3 (mustR c k_com (takeR c 1 (openR c k_lp X.isNone S)).2)).1.n, 0, (a : Int), []⟩ (.slice none 0 0)) (by simp [results, Tryz.results165, go_sem, *]) rfl (hP.out _ _ _ (mustR c k_rp ((takeR c 3 (mustR c k_com (takeR c 1 (openR c k_lp X.isNone S)).2)).2)) ?_ hR.out)
  exact HC9.out.back (fit_of _ _ _ _ _ _ hz0.out hk1.1 hk1.2 Hk2.out.1 Hk4.out.2.1 zero64 ha0.out) rfl _ _ _ _ _ _
set_option maxHeartbeats 16000000 in
set_option maxRecDepth 20000 in
theorem qInRank_c {z rb tb : Nat} {LL : List Tk} {c : Int} {o : Nat} (hz : z ≤ 9223372036854775807) {X : Option Rdf} (HX : InQ z rb tb LL c o X) (q : Cl) (hn : q.2.2 = 0) (hk : q.2.1 = 12) (a : Nat) (ha : a ≤ z) (S : Sr) (w : World) (hr : Rr z w rb tb LL c S o) :
    Calls Tryz.prog 165 #[.pointer (some ⟨rb, 0, none⟩), .agg #[.string q.1, .int .i64 q.2.1, .int .i64 q.2.2], .int .i64 (a : Nat)] w (QtP w.heap.size z w rb tb LL c o (winR c X.isNone q.2.1 a S)) := by
  have HX0 := hid2 HX
  have hz0 := hid2 hz
  have ha0 := hid2 ha
  obtain ⟨R, hR⟩ : ∃ R, Hid (R = winR c X.isNone q.2.1 a S) := ⟨_, rfl⟩
  rw [← hR.out]
  have hP : Hid (∀ w' t u S', Turn [rb] w w' ∧ Rr z w' rb tb LL c S' o ∧ SitB w.heap.size z w' t u → R = (t, S') → QtP w.heap.size z w rb tb LL c o R (.returned (tmV t u)) w') := fun w' t u S' h h3 => ⟨h.1, ⟨_, rfl, u, by rw [h3], by rw [h3]; exact h.2.2⟩, by rw [h3]; exact h.2.1⟩
  generalize QtP w.heap.size z w rb tb LL c o R = Post at *
  have HC0 := hid2 (InS.made hr q a)
  clear HX hz ha hr
  obtain ⟨xq, kq, nq⟩ := q
  simp only at *
  subst hn hk
  unfold winR at hR
  rw [if_pos rfl] at hR
  go_enter Tryz.func165, Tryz.ntmps165
  go_wp2_with fail
  refine Calls.mono (open_any HX0.out _ HC0.out.re) ?_
  rintro e w1 ⟨o1, ⟨rfl, t1, r1⟩, HO⟩
  have HC1 := hid2 (HC0.out.turn t1 r1)
  have HO1 := hid2 HO
  clear HC0 t1 r1 HO HX0
  obtain ⟨c0, c1, c2⟩ := HC1.out.ca.trio
  have cl := HC1.out.ca.lt
  obtain ⟨g0, g1, g2, g3, g4, g5, h0, h1, h2, h3, h4, h5⟩ := HC1.out.gx.six
  have gl := HC1.out.gx.lt
  go_wp2_with fail
  have fd1 := fld1
  have fd2 := fld2
  go_loopw [8] (fun p wr => p = .int .i64 0 ∧ wr = w1) (fun _ _ => 0)
  · exact ⟨rfl, rfl⟩
  obtain ⟨rfl, rfl⟩ := hrel
  go_wp2_with fail
  refine Calls.mono (qTake_c 1 (by decide) _ HC1.out.re) ?_
  rintro e w2 ⟨rfl, ta, ra⟩
  have Hk2 := hid2 (take_tk (c := c) (k := 1) HC1.out.re.tl)
  have HC2a := hid2 (HC1.out.turn ta ra)
  have HO2 := hid2 (HO1.out.to (S' := (takeR c 1 (openR c k_lp X.isNone S)).2) (fun h => by rw [take_bad h]; exact h))
  clear ta ra HC1 HO1 c0 c1 c2 cl g0 g1 g2 g3 g4 g5 h0 h1 h2 h3 h4 h5 gl
  obtain ⟨c0, c1, c2⟩ := HC2a.out.ca.trio
  have cl := HC2a.out.ca.lt
  obtain ⟨g0, g1, g2, g3, g4, g5, h0, h1, h2, h3, h4, h5⟩ := HC2a.out.gx.six
  have gl := HC2a.out.gx.lt
  have HC2 := hid2 (HC2a.out.set 1 (by simp) (.string (takeR c 1 (openR c k_lp X.isNone S)).1.text))
  simp only [tkW]
  go_wp2_with fail
  refine Calls.mono (qMust_c k_com ⟨ba_neL [40] (by decide), ba_neL [123] (by decide), ba_neL [41] (by decide), ba_neL [125] (by decide)⟩ _ HC2.out.re) ?_
  rintro e w3 ⟨rfl, ta, ra⟩
  have HC3 := hid2 (HC2.out.turn ta ra)
  have HO3 := hid2 (HO2.out.to (S' := mustR c k_com ((takeR c 1 (openR c k_lp X.isNone S)).2)) (fun h => by rw [must_bad h]; exact h))
  clear ta ra HC2 HO2 c0 c1 c2 cl g0 g1 g2 g3 g4 g5 h0 h1 h2 h3 h4 h5 gl HC2a
  obtain ⟨c0, c1, c2⟩ := HC3.out.ca.trio
  have cl := HC3.out.ca.lt
  obtain ⟨g0, g1, g2, g3, g4, g5, h0, h1, h2, h3, h4, h5⟩ := HC3.out.gx.six
  have gl := HC3.out.gx.lt
  go_wp2_with fail
  refine Calls.mono (qTake_c 3 (by decide) _ HC3.out.re) ?_
  rintro e w4 ⟨rfl, ta, ra⟩
  have Hk4 := hid2 (take_tk (c := c) (k := 3) HC3.out.re.tl)
  have HC4a := hid2 (HC3.out.turn ta ra)
  have HO4 := hid2 (HO3.out.to (S' := (takeR c 3 (mustR c k_com (takeR c 1 (openR c k_lp X.isNone S)).2)).2) (fun h => by rw [take_bad h]; exact h))
  clear ta ra HC3 HO3 c0 c1 c2 cl g0 g1 g2 g3 g4 g5 h0 h1 h2 h3 h4 h5 gl
  obtain ⟨c0, c1, c2⟩ := HC4a.out.ca.trio
  have cl := HC4a.out.ca.lt
  obtain ⟨g0, g1, g2, g3, g4, g5, h0, h1, h2, h3, h4, h5⟩ := HC4a.out.gx.six
  have gl := HC4a.out.gx.lt
  have HC4 := hid2 (HC4a.out.set 2 (by simp) (.int .i64 (takeR c 3 (mustR c k_com (takeR c 1 (openR c k_lp X.isNone S)).2)).1.n))
  simp only [tkW]
  go_wp2_with fail
  refine Calls.mono (qMust_c k_com ⟨ba_neL [40] (by decide), ba_neL [123] (by decide), ba_neL [41] (by decide), ba_neL [125] (by decide)⟩ _ HC4.out.re) ?_
  rintro e w5 ⟨rfl, ta, ra⟩
  have HC5 := hid2 (HC4.out.turn ta ra)
  have HO5 := hid2 (HO4.out.to (S' := mustR c k_com ((takeR c 3 (mustR c k_com (takeR c 1 (openR c k_lp X.isNone S)).2)).2)) (fun h => by rw [must_bad h]; exact h))
  clear ta ra HC4 HO4 c0 c1 c2 cl g0 g1 g2 g3 g4 g5 h0 h1 h2 h3 h4 h5 gl HC4a
  obtain ⟨c0, c1, c2⟩ := HC5.out.ca.trio
  have cl := HC5.out.ca.lt
  obtain ⟨g0, g1, g2, g3, g4, g5, h0, h1, h2, h3, h4, h5⟩ := HC5.out.gx.six
  have gl := HC5.out.gx.lt
  go_wp2_with fail
  refine Calls.mono (qTake_c 2 (by decide) _ HC5.out.re) ?_
  rintro e w6 ⟨rfl, ta, ra⟩
  have Hk6 := hid2 (take_tk (c := c) (k := 2) HC5.out.re.tl)
  have HC6a := hid2 (HC5.out.turn ta ra)
  have HO6 := hid2 (HO5.out.to (S' := (takeR c 2 (mustR c k_com (takeR c 3 (mustR c k_com (takeR c 1 (openR c k_lp X.isNone S)).2)).2)).2) (fun h => by rw [take_bad h]; exact h))
  clear ta ra HC5 HO5 c0 c1 c2 cl g0 g1 g2 g3 g4 g5 h0 h1 h2 h3 h4 h5 gl
  obtain ⟨c0, c1, c2⟩ := HC6a.out.ca.trio
  have cl := HC6a.out.ca.lt
  obtain ⟨g0, g1, g2, g3, g4, g5, h0, h1, h2, h3, h4, h5⟩ := HC6a.out.gx.six
  have gl := HC6a.out.gx.lt
  have HC6 := hid2 (HC6a.out.set 3 (by simp) (.int .i64 (takeR c 2 (mustR c k_com (takeR c 3 (mustR c k_com (takeR c 1 (openR c k_lp X.isNone S)).2)).2)).1.n))
  simp only [tkW]
  go_wp2_with fail
  refine Calls.mono (close_any HO6.out _ HC6.out.re) ?_
  rintro e w9 ⟨rfl, ta, ra⟩
  have HC9 := hid2 (HC6.out.turn ta ra)
  clear ta ra HC6 HO6 c0 c1 c2 cl g0 g1 g2 g3 g4 g5 h0 h1 h2 h3 h4 h5 gl HC6a
  obtain ⟨g0, g1, g2, g3, g4, g5, h0, h1, h2, h3, h4, h5⟩ := HC9.out.gx.six
  have gl := HC9.out.gx.lt
  obtain ⟨x0, x1, x2, x3, x4, x5, y0, y1, y2, y3, y4, y5⟩ := HC9.out.rs.six
  have xl := HC9.out.rs.lt
  go_wp2_with fail
  refine bodyPost_ret (v := tmV ⟨12, (takeR c 1 (openR c k_lp X.isNone S)).1.text, (takeR c 3 (mustR c k_com (takeR c 1 (openR c k_lp X.isNone S)).2)).1.n, (takeR c 2 (mustR c k_com (takeR c 3 (mustR c k_com (takeR c 1 (openR c k_lp X.isNone S)).2)).2)).1.n, (a : Int), []⟩ (.slice none 0 0)) (by simp [results, Tryz.results165, go_sem, *]) rfl (hP.out _ _ _ (mustR c k_rp ((takeR c 2 (mustR c k_com (takeR c 3 (mustR c k_com (takeR c 1 (openR c k_lp X.isNone S)).2)).2)).2)) ?_ hR.out)
  exact HC9.out.back (fit_of _ _ _ _ _ _ hz0.out (by decide) (by decide) Hk2.out.1 Hk4.out.2.1 Hk6.out.2.1 ha0.out) rfl _ _ _ _ _ _
end Go.Proofs.YtecdfnpbcabdnaaGreatDoor

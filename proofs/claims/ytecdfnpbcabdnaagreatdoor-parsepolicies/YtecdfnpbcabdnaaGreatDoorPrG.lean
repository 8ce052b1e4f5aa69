/- The document's reader in memory: fac, rel. -/
import Derived.Test.YtecdfnpbcabdnaaGreatDoorPrF
namespace Go.Proofs.YtecdfnpbcabdnaaGreatDoor
open Go.RowKit Go.Lib

/-- A method under way: its result's slot is still bare. -/
structure RsS (z : Nat) (w W : World) (rb tb : Nat) (LL : List Tk) (c : Int) (o : Nat) (S : Sr) : Prop where
  re : Rr z W rb tb LL c S o
  tn : Turn [rb] w W
  rs : Box W w.heap.size zs6
  rl : rb < w.heap.size ∧ tb < w.heap.size
theorem RsS.turn {z : Nat} {w W W' : World} {rb tb : Nat} {LL : List Tk} {c : Int} {o o' : Nat} {S S' : Sr} (h : RsS z w W rb tb LL c o S) (k : Turn [rb] W W') (r : Rr z W' rb tb LL c S' o') : RsS z w W' rb tb LL c o' S' := by
  have hl := h.rl
  exact ⟨r, turn_one h.tn k, h.rs.turn k (by simp; omega), hl⟩
theorem RsS.next {z : Nat} {w W W' : World} {rb tb : Nat} {LL : List Tk} {c : Int} {o : Nat} {S : Sr} (h : RsS z w W rb tb LL c o S) (k : Below W.heap.size W W') : RsS z w W' rb tb LL c o S := h.turn (Turn.of_below k) (h.re.next k)
theorem RsS.made {z : Nat} {w : World} {rb tb : Nat} {LL : List Tk} {c : Int} {o : Nat} {S : Sr} (h : Rr z w rb tb LL c S o) : RsS z w (w.alloc (.cells zs6.toArray 33)) rb tb LL c o S :=
  have k := (Below.refl w.heap.size w).alloc (Nat.le_refl _) (.cells zs6.toArray 33)
  ⟨h.next k, Turn.of_below k, Box.new w _ _, h.lts⟩
theorem may_adv {x : ByteArray} {S : Sr} (h : isR x S = true) : mayR x S = adv S := by unfold mayR; exact if_pos h
theorem may_not {x : ByteArray} {S : Sr} (h : isR x S = false) : mayR x S = S := by unfold mayR; rw [h]; rfl
/-- A term of one part is given back. -/
theorem one_back {z : Nat} {w W : World} {rb tb : Nat} {LL : List Tk} {c : Int} {o : Nat} {S : Sr} {k : Int} {a B : Nat} {x : Tm} {u : Value} (h : RsS z w W rb tb LL c o S) (s : SitB B z W x u) (hB : w.heap.size < B) (hf : Fit z (tm k a [x])) (v0 v1 v2 v3 v4 v5 : Value) :
    let W' := ((((((W.setCell ⟨w.heap.size, 0, none⟩ v0).setCell ⟨w.heap.size, 1, none⟩ v1).setCell ⟨w.heap.size, 2, none⟩ v2).setCell ⟨w.heap.size, 3, none⟩ v3).setCell ⟨w.heap.size, 4, none⟩ v4).setCell ⟨w.heap.size, 5, none⟩ v5).alloc (.cells (tmQ x u).toArray 33)
    Turn [rb] w W' ∧ Rr z W' rb tb LL c S o ∧ SitB w.heap.size z W' (tm k a [x]) (.slice (some ⟨W.heap.size, 0, none⟩) 1 1) := by
  intro W'
  have hl := h.rl
  have k6 := turn_six W w.heap.size v0 v1 v2 v3 v4 v5
  have X := Box.new ((((((W.setCell ⟨w.heap.size, 0, none⟩ v0).setCell ⟨w.heap.size, 1, none⟩ v1).setCell ⟨w.heap.size, 2, none⟩ v2).setCell ⟨w.heap.size, 3, none⟩ v3).setCell ⟨w.heap.size, 4, none⟩ v4).setCell ⟨w.heap.size, 5, none⟩ v5) (tmQ x u) 33
  have ka := (Below.refl ((((((W.setCell ⟨w.heap.size, 0, none⟩ v0).setCell ⟨w.heap.size, 1, none⟩ v1).setCell ⟨w.heap.size, 2, none⟩ v2).setCell ⟨w.heap.size, 3, none⟩ v3).setCell ⟨w.heap.size, 4, none⟩ v4).setCell ⟨w.heap.size, 5, none⟩ v5).heap.size ((((((W.setCell ⟨w.heap.size, 0, none⟩ v0).setCell ⟨w.heap.size, 1, none⟩ v1).setCell ⟨w.heap.size, 2, none⟩ v2).setCell ⟨w.heap.size, 3, none⟩ v3).setCell ⟨w.heap.size, 4, none⟩ v4).setCell ⟨w.heap.size, 5, none⟩ v5)).alloc (Nat.le_refl _) (.cells (tmQ x u).toArray 33)
  have e1 : ((((((W.setCell ⟨w.heap.size, 0, none⟩ v0).setCell ⟨w.heap.size, 1, none⟩ v1).setCell ⟨w.heap.size, 2, none⟩ v2).setCell ⟨w.heap.size, 3, none⟩ v3).setCell ⟨w.heap.size, 4, none⟩ v4).setCell ⟨w.heap.size, 5, none⟩ v5).heap.size = W.heap.size := by simp
  rw [e1] at X
  have s2 : SitB B z W' x u := SitQ.keep ka.size (fun b hb hq => ⟨hq, fun j => cell_of_below ka hb j⟩) _ _ (SitQ.keep (Q' := fun b => B ≤ b) k6.size (fun b hb hq => ⟨hq, fun j => turn_cell k6 hb (by have hq' : B ≤ b := hq; simp; omega)⟩) _ _ s)
  have hws := h.rs.lt
  exact ⟨(h.tn.trans k6 (fun i hi => .inr (by simp at hi; omega))).andBelow ka, (h.re.turn k6 (by simp; omega) (by simp; omega)).next ka, sitb_one hf rfl X.lt (by omega) ⟨X.cell 0 _ rfl, X.cell 1 _ rfl, X.cell 2 _ rfl, X.cell 3 _ rfl, X.cell 4 _ rfl, X.cell 5 _ rfl⟩ (SitQ.weak s2 (fun b _ hb => by have hb' : B ≤ b := hb; show w.heap.size ≤ b; omega))⟩
/-- What a callee gave is given back. -/
theorem own_back {z : Nat} {w W : World} {rb tb : Nat} {LL : List Tk} {c : Int} {o : Nat} {S : Sr} {Q : Nat → Prop} {x : Tm} {u : Value} (h : RsS z w W rb tb LL c o S) (s : SitQ Q z W x u) (hB : ∀ b, Q b → w.heap.size < b) (v0 v1 v2 v3 v4 v5 : Value) :
    let W' := (((((W.setCell ⟨w.heap.size, 0, none⟩ v0).setCell ⟨w.heap.size, 1, none⟩ v1).setCell ⟨w.heap.size, 2, none⟩ v2).setCell ⟨w.heap.size, 3, none⟩ v3).setCell ⟨w.heap.size, 4, none⟩ v4).setCell ⟨w.heap.size, 5, none⟩ v5
    Turn [rb] w W' ∧ Rr z W' rb tb LL c S o ∧ SitB w.heap.size z W' x u := by
  intro W'
  have hl := h.rl
  have k6 := turn_six W w.heap.size v0 v1 v2 v3 v4 v5
  exact ⟨h.tn.trans k6 (fun i hi => .inr (by simp at hi; omega)), h.re.turn k6 (by simp; omega) (by simp; omega), SitQ.keep k6.size (fun b hb hq => ⟨by have := hB b hq; show w.heap.size ≤ b; omega, fun j => turn_cell k6 hb (by have := hB b hq; simp; omega)⟩) _ _ s⟩
set_option maxHeartbeats 8000000 in
theorem qFac_c {z rb tb : Nat} {LL : List Tk} {c : Int} {o : Nat} (hz : z ≤ 9223372036854775807) {P : Rdf} (HP : RdC z rb tb LL c o 147 P) : RdC z rb tb LL c o 130 (facR P) := fun S w hr => by
  have H1 := hid2 HP
  have HC0 := hid2 (RsS.made hr)
  have hat := hr.tl.ok.a
  have hz0 := hid2 hz
  obtain ⟨R, hR⟩ : ∃ R, Hid (R = facR P S) := ⟨_, rfl⟩
  rw [← hR.out]
  have hP : Hid (∀ w' t u S', Turn [rb] w w' ∧ Rr z w' rb tb LL c S' o ∧ SitB w.heap.size z w' t u → R = (t, S') → QtP w.heap.size z w rb tb LL c o R (.returned (tmV t u)) w') := fun w' t u S' h h3 => ⟨h.1, ⟨_, rfl, u, by rw [h3], by rw [h3]; exact h.2.2⟩, by rw [h3]; exact h.2.1⟩
  generalize QtP w.heap.size z w rb tb LL c o R = Post at *
  have hl0 := hr.lts
  clear HP hz hr
  go_enter Tryz.func130, Tryz.ntmps130
  go_wp2_with fail
  refine Calls.mono (qAt_c _ HC0.out.re) ?_
  rintro e w1 ⟨rfl, b1⟩
  have HC1 := hid2 (HC0.out.next b1)
  clear HC0 b1
  go_wp2_with fail
  refine Calls.mono (qMay_c k_sub ⟨ba_neL [40] (by decide), ba_neL [123] (by decide), ba_neL [41] (by decide), ba_neL [125] (by decide)⟩ _ HC1.out.re) ?_
  rintro e w2 ⟨rfl, t2, r2⟩
  have HC2 := hid2 (HC1.out.turn t2 r2)
  clear HC1 t2 r2
  cases h2 : isR k_sub S with
  | true =>
    rw [may_adv h2] at HC2
    have hR1 : Hid (R = (tm 13 (hdT S.L).at_ [(P (adv S)).1], (P (adv S)).2)) := by show _ = _; rw [hR.out]; unfold facR; rw [if_pos h2]
    clear hR
    go_wp2_with fail
    refine Calls.mono (H1.out (adv S) _ HC2.out.re) ?_
    rintro e w4 ⟨t4, ⟨v, rfl, u, rfl, s4⟩, r4⟩
    have HC4 := hid2 (HC2.out.turn t4 r4)
    have hsz := HC2.out.rs.lt
    obtain ⟨ad, cp, rfl, hcp1, hcp2⟩ := s4.parts.shape
    have HS4 := hid2 s4
    obtain ⟨x0, x1, x2, x3, x4, x5, y0, y1, y2, y3, y4, y5⟩ := HC4.out.rs.six
    have xl := HC4.out.rs.lt
    simp only [tmV]
    clear t4 r4 s4
    go_wp2_with fail
    refine bodyPost_ret (v := tmV (tm 13 (hdT S.L).at_ [(P (adv S)).1]) (.slice (some ⟨w4.heap.size, 0, none⟩) 1 1)) (by simp [results, Tryz.results130, go_sem, *]) rfl (hP.out _ _ _ (P (adv S)).2 ?_ hR1.out)
    exact one_back HC4.out HS4.out hsz (fit_of _ _ _ _ _ _ hz0.out (by decide) (by decide) (Nat.zero_le _) zero64 zero64 hat) _ _ _ _ _ _
  | false =>
    rw [may_not h2] at HC2
    have hN := h2
    clear h2
    go_wp2_with fail
    refine Calls.mono (qMay_c k_not ⟨ba_neL [40] (by decide), ba_neL [123] (by decide), ba_neL [41] (by decide), ba_neL [125] (by decide)⟩ _ HC2.out.re) ?_
    rintro e w2b ⟨rfl, t2, r2⟩
    have HC3 := hid2 (HC2.out.turn t2 r2)
    clear HC2 t2 r2
    cases h2 : isR k_not S with
    | true =>
      rw [may_adv h2] at HC3
      have hR1 : Hid (R = (tm 14 (hdT S.L).at_ [(P (adv S)).1], (P (adv S)).2)) := by show _ = _; rw [hR.out]; unfold facR; rw [if_neg (by rw [hN]; simp), if_pos h2]
      clear hR
      go_wp2_with fail
      refine Calls.mono (H1.out (adv S) _ HC3.out.re) ?_
      rintro e w4 ⟨t4, ⟨v, rfl, u, rfl, s4⟩, r4⟩
      have HC4 := hid2 (HC3.out.turn t4 r4)
      have hsz := HC3.out.rs.lt
      obtain ⟨ad, cp, rfl, hcp1, hcp2⟩ := s4.parts.shape
      have HS4 := hid2 s4
      obtain ⟨x0, x1, x2, x3, x4, x5, y0, y1, y2, y3, y4, y5⟩ := HC4.out.rs.six
      have xl := HC4.out.rs.lt
      simp only [tmV]
      clear t4 r4 s4
      go_wp2_with fail
      refine bodyPost_ret (v := tmV (tm 14 (hdT S.L).at_ [(P (adv S)).1]) (.slice (some ⟨w4.heap.size, 0, none⟩) 1 1)) (by simp [results, Tryz.results130, go_sem, *]) rfl (hP.out _ _ _ (P (adv S)).2 ?_ hR1.out)
      exact one_back HC4.out HS4.out hsz (fit_of _ _ _ _ _ _ hz0.out (by decide) (by decide) (Nat.zero_le _) zero64 zero64 hat) _ _ _ _ _ _
    | false =>
      rw [may_not h2] at HC3
      have hR1 : Hid (R = P S) := by show _ = _; rw [hR.out]; unfold facR; rw [if_neg (by rw [hN]; simp), if_neg (by rw [h2]; simp)]
      clear hR
      go_wp2_with fail
      refine Calls.mono (H1.out S _ HC3.out.re) ?_
      rintro e w4 ⟨t4, ⟨v, rfl, u, rfl, s4⟩, r4⟩
      have HC4 := hid2 (HC3.out.turn t4 r4)
      have hsz := HC3.out.rs.lt
      obtain ⟨ad, cp, rfl, hcp1, hcp2⟩ := s4.parts.shape
      have HS4 := hid2 s4
      obtain ⟨x0, x1, x2, x3, x4, x5, y0, y1, y2, y3, y4, y5⟩ := HC4.out.rs.six
      have xl := HC4.out.rs.lt
      simp only [tmV]
      clear t4 r4 s4
      go_wp2_with fail
      refine bodyPost_ret (v := tmV (P S).1 (.slice ad (P S).1.parts.length cp)) (by simp [results, Tryz.results130, go_sem, *]) rfl (hP.out _ _ _ (P S).2 ?_ hR1.out)
      exact own_back HC4.out HS4.out (fun b hb => by have hb' : _ ≤ b := hb; omega) _ _ _ _ _ _
theorem sg_cons (x : ByteArray) (k : Int) (r : Sg) (S : Sr) : sgR ((x, k) :: r) S = if isR x S = true then some k else sgR r S := by
  unfold sgR isR sgT
  cases S.good with
  | false => rfl
  | true =>
    rw [if_pos rfl, if_pos rfl, Bool.true_and]
    simp only [List.find?_cons]
    cases isT x (hdT S.L) <;> rfl
def cmpV : List Value := [.string k_lt, .string k_le, .string k_eq, .string k_gt, .string k_ge]
theorem cmp_get (i : Nat) (hi : i < 5) : ∃ x, cmpV[i]? = some (.string x) ∧ sgCmp.drop i = (x, 22 + (i : Int)) :: sgCmp.drop (i + 1) := by
  have h5 : i = 0 ∨ i = 1 ∨ i = 2 ∨ i = 3 ∨ i = 4 := by omega
  rcases h5 with rfl | rfl | rfl | rfl | rfl
  · exact ⟨_, rfl, rfl⟩
  · exact ⟨_, rfl, rfl⟩
  · exact ⟨_, rfl, rfl⟩
  · exact ⟨_, rfl, rfl⟩
  · exact ⟨_, rfl, rfl⟩
theorem LvS.rss {z : Nat} {w W : World} {rb tb : Nat} {LL : List Tk} {c : Int} {o g : Nat} {t : Tm} {u : Value} {S : Sr} (h : LvS z w W rb tb LL c o g t u S) : RsS z w W rb tb LL c o S := ⟨h.re, h.tn, h.rs, h.rl⟩
set_option maxHeartbeats 8000000 in
theorem qRel_c {z rb tb : Nat} {LL : List Tk} {c : Int} {o : Nat} (hz : z ≤ 9223372036854775807) {P : Rdf} (HP : RdC z rb tb LL c o 88 P) : RdC z rb tb LL c o 62 (relR sgCmp P) := fun S w hr => by
  have H1 := hid2 HP
  have hz0 := hid2 hz
  have hl0 := hr.lts
  obtain ⟨R, hR⟩ : ∃ R, Hid (R = relR sgCmp P S) := ⟨_, rfl⟩
  rw [← hR.out]
  have hP : Hid (∀ w' t u S', Turn [rb] w w' ∧ Rr z w' rb tb LL c S' o ∧ SitB w.heap.size z w' t u → R = (t, S') → QtP w.heap.size z w rb tb LL c o R (.returned (tmV t u)) w') := fun w' t u S' h h3 => ⟨h.1, ⟨_, rfl, u, by rw [h3], by rw [h3]; exact h.2.2⟩, by rw [h3]; exact h.2.1⟩
  generalize QtP w.heap.size z w rb tb LL c o R = Post at *
  clear HP hz
  go_enter Tryz.func62, Tryz.ntmps62
  go_wp2_with fail
  refine Calls.mono (H1.out S _ (hr.next ((Below.refl _ _).alloc (Nat.le_refl _) _))) ?_
  rintro e w1 ⟨t1, ⟨v, rfl, u, rfl, s1⟩, r1⟩
  simp only [tmV]
  obtain ⟨ad, cp, rfl, hcp1, hcp2⟩ := s1.parts.shape
  have X0 := (Box.new w zs6 33).turn t1 (by simp; omega)
  have hw1 : w.heap.size + 1 ≤ w1.heap.size := by have := t1.size; simpa using this
  have C0 : LvS z w (w1.alloc (.cells (tmQ (P S).1 (.slice ad (P S).1.parts.length cp)).toArray 33)) rb tb LL c o w1.heap.size (P S).1 (.slice ad (P S).1.parts.length cp) (P S).2 := by
    have k := (Below.refl w1.heap.size w1).alloc (Nat.le_refl _) (.cells (tmQ (P S).1 (.slice ad (P S).1.parts.length cp)).toArray 33)
    exact ⟨r1.next k, (tnA t1).andBelow k, X0.next k, Box.new w1 _ _, SitQ.keep k.size (fun b hb hq => ⟨⟨by have : (w.alloc (.cells zs6.toArray 33)).heap.size ≤ b := hq; simp at this; omega, by omega⟩, fun j => cell_of_below k hb j⟩) _ _ s1, by omega, hl0⟩
  have HC0 := hid2 C0
  have hR0 : Hid (R = match sgR sgCmp (P S).2 with
    | some k => (tm k (hdT (P S).2.L).at_ [(P S).1, (P (adv (P S).2)).1], (P (adv (P S).2)).2)
    | none => ((P S).1, (P S).2)) := hR.out
  clear C0 X0 s1 r1 t1 hR hr
  generalize (P S).1 = t at *
  generalize (P S).2 = S1 at *
  go_wp2_with fail
  have ks := (Below.refl (w1.alloc (.cells (tmQ t (.slice ad t.parts.length cp)).toArray 33)).heap.size (w1.alloc (.cells (tmQ t (.slice ad t.parts.length cp)).toArray 33))).alloc (Nat.le_refl _) (.cells cmpV.toArray 9)
  have HC1 := hid2 (HC0.out.next ks)
  have HV1 : Hid (Box ((w1.alloc (.cells (tmQ t (.slice ad t.parts.length cp)).toArray 33)).alloc (.cells cmpV.toArray 9)) (w1.heap.size + 1) cmpV) := by
    have hh := Box.new (w1.alloc (.cells (tmQ t (.slice ad t.parts.length cp)).toArray 33)) cmpV 9
    rw [show (w1.alloc (.cells (tmQ t (.slice ad t.parts.length cp)).toArray 33)).heap.size = w1.heap.size + 1 by simp] at hh
    exact hh
  clear ks HC0
  obtain ⟨g, hg⟩ : ∃ g, Hid (g = w1.heap.size) := ⟨_, rfl⟩
  rw [← hg.out] at HC1 HV1 ⊢
  generalize hmm : t.parts.length = m1 at *
  go_loopw [5] (fun p wr => ∃ i : Nat, p = .int .i64 i ∧ i ≤ 5 ∧ Hid (sgR (sgCmp.drop i) S1 = sgR sgCmp S1) ∧ Hid (LvS z w wr rb tb LL c o g t (.slice ad m1 cp) S1) ∧ Hid (Box wr (g + 1) cmpV)) (fun p _ => 5 - (RowKit.intOf p).toNat)
  · exact ⟨0, rfl, Nat.zero_le _, rfl, HC1, HV1⟩
  obtain ⟨i, rfl, hi, HD, HC, HV⟩ := hrel
  clear HC1 HV1
  by_cases hlt : i < 5
  · have hlt' : (i : Int) < 5 := by omega
    obtain ⟨x, hx1, hx2⟩ := cmp_get i hlt
    have c0 := HV.out.cell i _ hx1
    have vl := HV.out.lt
    have HDx : Hid (sgR sgCmp S1 = if isR x S1 = true then some (22 + (i : Int)) else sgR (sgCmp.drop (i + 1)) S1) := by
      show _ = _
      rw [← HD.out, hx2, sg_cons]
    clear HD hx2 hx1
    go_wp2_with fail
    refine Calls.mono (qIs_c x _ HC.out.re) ?_
    rintro e w2 ⟨rfl, b2⟩
    have HC2 := hid2 (HC.out.next b2)
    have HV2 := hid2 (HV.out.next b2)
    clear b2 HC HV
    cases h2 : isR x S1 with
    | false =>
      have HD2 : Hid (sgR (sgCmp.drop (i + 1)) S1 = sgR sgCmp S1) := by
        show _ = _
        rw [HDx.out, if_neg (by rw [h2]; simp)]
      clear HDx
      go_wp2_with fail
      go_roundw
      · exact ⟨i + 1, by simp, hlt, HD2, HC2, HV2⟩
      · simp [RowKit.intOf]; omega
    | true =>
      have HN : Hid (R = (tm (22 + (i : Int)) (hdT S1.L).at_ [t, (P (adv S1)).1], (P (adv S1)).2)) := by
        show _ = _
        rw [hR0.out, HDx.out, if_pos h2]
      have hkd : (hdT S1.L).kind ≠ 7 := isT_kind (isR_good h2).2
      clear HDx hR0
      go_wp2_with fail
      refine Calls.mono (qAt_c _ HC2.out.re) ?_
      rintro e w3 ⟨rfl, b3⟩
      have HC3 := hid2 (HC2.out.next b3)
      obtain ⟨j, i1, i2, i3, i4, r4⟩ := HC3.out.re.adv hkd
      have HC4 := hid2 (HC3.out.turn (turn_set _ _ _ _) r4)
      have hat := HC3.out.re.tl.ok.a
      clear r4 HC2 HC3 b3 HV2
      go_wp2_with fail
      generalize w3.setCell ⟨rb, 1, none⟩ (.int .i64 ((j : Int) + 1)) = W4 at *
      clear i1 i2 i3 i4
      obtain ⟨l0, l1, l2, l3, l4, l5, e0, e1, e2, e3, e4, e5⟩ := HC4.out.lt.six
      have ll := HC4.out.lt.lt
      have hgg := HC4.out.gg
      have hwr : Hid (IntKind.i64.wrap (22 + (i : Int)) = 22 + (i : Int)) := by show _ = _; rw [IntKind.wrap_i64]; omega
      go_region_with (first
        | (go_at_call 88; refine Calls.mono (H1.out (adv S1) _ (HC4.out.re.next ((Below.refl _ _).drew))) ?_; rintro e w5 ⟨t5, ⟨v5, rfl, u5, rfl, s5⟩, r5⟩; obtain ⟨ad5, cp5, rfl, h51, h52⟩ := s5.parts.shape; have sz5 := t5.size; have HC5 := hid2 ((HC4.out.next (Below.refl _ _).drew).turn t5 r5); obtain ⟨m0, m1', m2, m3, m4, m5, n0, n1, n2, n3, n4, n5⟩ := HC5.out.lt.six; have ll5 := HC5.out.lt.lt; have HS5 := hid2 s5; clear t5 r5 s5; simp only [tmV])
        | (go_at_call 40; rw [hwr.out]; refine Calls.mono (qTwo_c (Q := fun b => w.heap.size < b ∧ b ≠ g) (22 + (i : Int)) (hdT S1.L).at_ t (P (adv S1)).1 (.slice ad m1 cp) (.slice ad5 (P (adv S1)).1.parts.length cp5) w5 (fun b hb => ⟨by omega, by omega⟩) HC5.out.si (HS5.out.weak (fun b _ hb => ⟨by have hb' : W4.drew.heap.size ≤ b := hb; simp at hb'; omega, by have hb' : W4.drew.heap.size ≤ b := hb; simp at hb'; omega⟩)) (fit_of _ _ _ _ _ _ hz0.out (by omega) (by omega) (Nat.zero_le _) zero64 zero64 hat)) ?_; rintro e w6 ⟨b6, x6, rfl, s6⟩; obtain ⟨ad6, cp6, rfl, h61, h62⟩ := s6.parts.shape; have HC6 := hid2 (HC5.out.next b6).rss; obtain ⟨o0, o1, o2, o3, o4, o5, p0, p1, p2, p3, p4, p5⟩ := HC6.out.rs.six; have ll6 := HC6.out.rs.lt; have HS6 := hid2 s6; clear b6 s6; simp only [tmV]))
      all_goals go_wp2_with fail
      all_goals (
        clear l0 l1 l2 l3 l4 l5 e0 e1 e2 e3 e4 e5 m0 m1' m2 m3 m4 m5 n0 n1 n2 n3 n4 n5
        refine bodyPost_ret (v := tmV (tm (22 + (i : Int)) (hdT S1.L).at_ [t, (P (adv S1)).1]) (.slice ad6 2 cp6)) (by simp [results, Tryz.results62, go_sem, o0, o1, o2, o3, o4, o5]) rfl ?_
        have ob := own_back HC6.out HS6.out (fun b hb => hb.1) (.int .i64 (22 + (i : Int))) (.string ⟨#[]⟩) (.int .i64 0) (.int .i64 0) (.int .i64 ((hdT S1.L).at_ : Nat)) (.slice ad6 2 cp6)
        exact hP.out _ _ _ (P (adv S1)).2 ob HN.out)
  · have h5 : i = 5 := by omega
    subst h5
    have HN : Hid (R = (t, S1)) := by
      show _ = _
      have hn : sgR (List.drop 5 sgCmp) S1 = none := by
        show sgR [] S1 = none
        unfold sgR
        split <;> rfl
      rw [hR0.out, ← HD.out, hn]
    have HC6 := hid2 HC.out.rss
    obtain ⟨l0, l1, l2, l3, l4, l5, _, _, _, _, _, _⟩ := HC.out.lt.six
    have ll := HC.out.lt.lt
    obtain ⟨o0, o1, o2, o3, o4, o5, p0, p1, p2, p3, p4, p5⟩ := HC6.out.rs.six
    have ll6 := HC6.out.rs.lt
    have HS6 := hid2 HC.out.si
    clear HC HV HD hR0
    go_wp2_with fail
    refine bodyPost_ret (v := tmV t (.slice ad m1 cp)) (by simp [results, Tryz.results62, go_sem, *]) rfl (hP.out _ _ _ S1 ?_ HN.out)
    exact own_back HC6.out HS6.out (fun b hb => hb.1) _ _ _ _ _ _
end Go.Proofs.YtecdfnpbcabdnaaGreatDoor

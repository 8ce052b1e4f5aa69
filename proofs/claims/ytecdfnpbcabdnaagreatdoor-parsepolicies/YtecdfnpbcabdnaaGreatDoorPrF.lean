/- The document's reader in memory: the levels that are loops. -/
import Derived.Test.YtecdfnpbcabdnaaGreatDoorPrE
import Derived.Test.YtecdfnpbcabdnaaGreatDoorPrB
import Derived.Deep.RegionWith
namespace Go.Proofs.YtecdfnpbcabdnaaGreatDoor
open Go.RowKit Go.Lib

def RdC (z rb tb : Nat) (LL : List Tk) (c : Int) (o fn : Nat) (P : Rdf) : Prop := ∀ S w, Rr z w rb tb LL c S o → Calls Tryz.prog fn #[.pointer (some ⟨rb, 0, none⟩)] w (QtP w.heap.size z w rb tb LL c o (P S))
/-- Where the reader stands. -/
def qI (w : World) (rb : Nat) : Nat := match w.cell? ⟨rb, 1, none⟩ with
  | some (.int _ i) => i.toNat
  | _ => 0
theorem Rr.left {z : Nat} {w : World} {rb tb : Nat} {LL : List Tk} {c : Int} {S : Sr} {o : Nat} (h : Rr z w rb tb LL c S o) : LL.length - qI w rb = S.L.length := by
  obtain ⟨off, cap, i, ov, h⟩ := h
  unfold qI
  rw [h.box.cell 1 _ rfl, h.dr, List.length_drop]
  rfl
abbrev tmQ (t : Tm) (u : Value) : List Value := [.int .i64 t.kind, .string t.text, .int .i64 t.n, .int .i64 t.m, .int .i64 t.pl, u]
/-- A level under way: its term t lies at g. -/
structure LvS (z : Nat) (w W : World) (rb tb : Nat) (LL : List Tk) (c : Int) (o g : Nat) (t : Tm) (u : Value) (S : Sr) : Prop where
  re : Rr z W rb tb LL c S o
  tn : Turn [rb] w W
  rs : Box W w.heap.size zs6
  lt : Box W g (tmQ t u)
  si : SitQ (fun b => w.heap.size < b ∧ b ≠ g) z W t u
  gg : w.heap.size < g
  rl : rb < w.heap.size ∧ tb < w.heap.size
theorem LvS.turn {z : Nat} {w W W' : World} {rb tb : Nat} {LL : List Tk} {c : Int} {o g : Nat} {t : Tm} {u : Value} {S S' : Sr} (h : LvS z w W rb tb LL c o g t u S) (k : Turn [rb] W W') (r : Rr z W' rb tb LL c S' o) : LvS z w W' rb tb LL c o g t u S' := by
  have hl := h.rl
  have hg := h.gg
  exact ⟨r, turn_one h.tn k, h.rs.turn k (by simp; omega), h.lt.turn k (by simp; omega), SitQ.keep k.size (fun b hb hq => ⟨hq, fun j => turn_cell k hb (by simp; omega)⟩) _ _ h.si, hg, hl⟩
theorem LvS.next {z : Nat} {w W W' : World} {rb tb : Nat} {LL : List Tk} {c : Int} {o g : Nat} {t : Tm} {u : Value} {S : Sr} (h : LvS z w W rb tb LL c o g t u S) (k : Below W.heap.size W W') : LvS z w W' rb tb LL c o g t u S := h.turn (Turn.of_below k) (h.re.next k)
/-- A new term is laid at g. -/
theorem LvS.put {z : Nat} {w W : World} {rb tb : Nat} {LL : List Tk} {c : Int} {o g : Nat} {t t' : Tm} {u u' : Value} {S : Sr} (h : LvS z w W rb tb LL c o g t u S) (s : SitQ (fun b => w.heap.size < b ∧ b ≠ g) z W t' u') :
    LvS z w ((((((W.setCell ⟨g, 0, none⟩ (.int .i64 t'.kind)).setCell ⟨g, 1, none⟩ (.string t'.text)).setCell ⟨g, 2, none⟩ (.int .i64 t'.n)).setCell ⟨g, 3, none⟩ (.int .i64 t'.m)).setCell ⟨g, 4, none⟩ (.int .i64 t'.pl)).setCell ⟨g, 5, none⟩ u') rb tb LL c o g t' u' S := by
  have hl := h.rl
  have hg := h.gg
  have k := turn_six W g (.int .i64 t'.kind) (.string t'.text) (.int .i64 t'.n) (.int .i64 t'.m) (.int .i64 t'.pl) u'
  exact ⟨h.re.turn k (by simp; omega) (by simp; omega), h.tn.trans k (fun i hi => .inr (by simp at hi; omega)), h.rs.turn k (by simp; omega), (((((h.lt.set 0 (by simp) _).set 1 (by simp) _).set 2 (by simp) _).set 3 (by simp) _).set 4 (by simp) _).set 5 (by simp) _, SitQ.keep k.size (fun b hb hq => ⟨hq, fun j => turn_cell k hb (by simp; exact hq.2)⟩) _ _ s, hg, hl⟩
/-- One token more is taken. -/
theorem Rr.adv {z : Nat} {w : World} {rb tb : Nat} {LL : List Tk} {c : Int} {S : Sr} {o : Nat} (h : Rr z w rb tb LL c S o) (hk : (hdT S.L).kind ≠ 7) :
    ∃ i : Nat, w.cell? ⟨rb, 1, none⟩ = some (.int .i64 (i : Nat)) ∧ w.frozen? ⟨rb, 1, none⟩ = false ∧ rb < w.heap.size ∧ i ≤ 9223372036854775806 ∧ Rr z (w.setCell ⟨rb, 1, none⟩ (.int .i64 ((i : Int) + 1))) rb tb LL c (Go.Proofs.YtecdfnpbcabdnaaGreatDoor.adv S) o := by
  obtain ⟨off, cap, i, ov, h⟩ := h
  refine ⟨i, h.box.cell 1 _ rfl, h.box.free 1 (by simp), h.box.lt, by have := h.il; have := h.le; have := h.mx; omega, off, cap, i + 1, ov, h.step (h.box.set 1 (by simp) _) (turn_set _ _ _ _) hk h.op h.oi h.dp⟩
set_option maxHeartbeats 8000000 in
theorem qProd_c {z rb tb : Nat} {LL : List Tk} {c : Int} {o : Nat} (hz : z ≤ 9223372036854775807) {P : Rdf} (HP : RdC z rb tb LL c o 130 P) (HD : LenE P) : RdC z rb tb LL c o 111 (leftR sgMul P) := fun S w hr => by
  have H1 := hid2 HP
  have hz0 := hid2 hz
  have HD0 := hid2 HD
  have hl0 := hr.lts
  obtain ⟨R, hR⟩ : ∃ R, Hid (R = leftR sgMul P S) := ⟨_, rfl⟩
  rw [← hR.out]
  have hP : Hid (∀ w' t u, Turn [rb] w w' → Rr z w' rb tb LL c R.2 o → R.1 = t → SitB w.heap.size z w' t u → QtP w.heap.size z w rb tb LL c o R (.returned (tmV t u)) w') := fun w' t u h1 h2 h3 h4 => ⟨h1, ⟨_, rfl, u, by rw [h3], by rw [h3]; exact h4⟩, h2⟩
  generalize QtP w.heap.size z w rb tb LL c o R = Post at *
  clear HP hz HD
  go_enter Tryz.func111, Tryz.ntmps111
  go_wp2_with fail
  refine Calls.mono (H1.out S _ (hr.next ((Below.refl _ _).alloc (Nat.le_refl _) _))) ?_
  rintro e w1 ⟨t1, ⟨v, rfl, u, rfl, s1⟩, r1⟩
  simp only [tmV]
  obtain ⟨ad, cp, rfl, hcp1, hcp2⟩ := s1.parts.shape
  have X0 := (Box.new w zs6 33).turn t1 (by simp; omega)
  have hw1 : w.heap.size + 1 ≤ w1.heap.size := by have := t1.size; simpa using this
  have C0 : LvS z w (w1.alloc (.cells (tmQ (P S).1 (.slice ad (P S).1.parts.length cp)).toArray 33)) rb tb LL c o w1.heap.size (P S).1 (.slice ad (P S).1.parts.length cp) (P S).2 := by
    have k := (Below.refl w1.heap.size w1).alloc (Nat.le_refl _) (.cells (tmQ (P S).1 (.slice ad (P S).1.parts.length cp)).toArray 33)
    exact ⟨r1.next k, (tnA t1).andBelow k, X0.next k, Box.new w1 _ _, SitQ.keep k.size (fun b hb hq => ⟨⟨by have : (w.alloc (.cells zs6.toArray 33)).heap.size ≤ b := hq; simp at this; omega, by omega⟩, fun j => cell_of_below k hb j⟩) _ _ s1, by omega, hl0⟩
  have HC0 := hid2 C0
  have hR0 : Hid (R = loopR sgMul P (P S).2.L.length (P S).1 (P S).2) := hR.out
  clear C0 X0 s1 r1 t1 hR
  generalize (P S).1 = t0 at *
  generalize (P S).2 = S0 at *
  go_wp2_with fail
  obtain ⟨g, hg⟩ : ∃ g, Hid (g = w1.heap.size) := ⟨_, rfl⟩
  rw [← hg.out] at HC0 ⊢
  go_loopw [] (fun wr => ∃ (S1 : Sr) (t : Tm) (ad : Option Addr) (m cp f : Nat), S1.L.length ≤ f ∧ Hid (LvS z w wr rb tb LL c o g t (.slice ad m cp) S1) ∧ Hid (R = loopR sgMul P f t S1)) (fun wr => LL.length - qI wr rb)
  · exact ⟨S0, t0, ad, _, cp, S0.L.length, Nat.le_refl _, HC0, hR0⟩
  obtain ⟨S1, t, ad1, m1, cp1, f, hf, HC, HR⟩ := hrel
  clear HC0 hR0
  have hpos := HC.out.re.tl.pos
  have hmeas := HC.out.re.left
  obtain ⟨f', rfl⟩ : ∃ f', f = f' + 1 := ⟨f - 1, by omega⟩
  rw [loopR] at HR
  go_wp2_with fail
  refine Calls.mono (qIs_c k_mul _ HC.out.re) ?_
  rintro e w2 ⟨rfl, b2⟩
  have HC2 := hid2 (HC.out.next b2)
  cases h2 : isR k_mul S1 with
  | true =>
    have HN : Hid (R = loopR sgMul P f' (tm 20 (hdT S1.L).at_ [t, (P (adv S1)).1]) (P (adv S1)).2) := by
      show _ = _
      rw [HR.out, sgr_two, if_pos h2]
    have hY : isR k_div S1 = false := isR_ne h2 (by decide)
    have hkd : (hdT S1.L).kind ≠ 7 := isT_kind (isR_good h2).2
    clear HR
    go_wp2_with fail
    refine Calls.mono (qAt_c _ HC2.out.re) ?_
    rintro e w3 ⟨rfl, b3⟩
    have HC3 := hid2 (HC2.out.next b3)
    clear HC2 b2 b3
    go_wp2_with fail
    refine Calls.mono (qIs_c k_div _ HC3.out.re) ?_
    rintro e w3' ⟨rfl, b3'⟩
    have HC3' := hid2 (HC3.out.next b3')
    rw [hY]
    obtain ⟨i, i1, i2, i3, i4, r4⟩ := HC3'.out.re.adv hkd
    have HC4 := hid2 (HC3'.out.turn (turn_set _ _ _ _) r4)
    have hat := HC3'.out.re.tl.ok.a
    have hlt : (adv S1).L.length < S1.L.length := by show S1.L.tail.length < _; rw [List.length_tail]; omega
    clear r4 HC3 HC3' b3'
    go_wp2_with fail
    generalize w3'.setCell ⟨rb, 1, none⟩ (.int .i64 ((i : Int) + 1)) = W4 at *
    clear i1 i2 i3 i4
    obtain ⟨l0, l1, l2, l3, l4, l5, e0, e1, e2, e3, e4, e5⟩ := HC4.out.lt.six
    have ll := HC4.out.lt.lt
    have hgg := HC4.out.gg
    go_region_with (first
      | (go_at_call 130; refine Calls.mono (H1.out (adv S1) _ (HC4.out.re.next ((Below.refl _ _).drew))) ?_; rintro e w5 ⟨t5, ⟨v5, rfl, u5, rfl, s5⟩, r5⟩; obtain ⟨ad5, cp5, rfl, h51, h52⟩ := s5.parts.shape; have sz5 := t5.size; have HC5 := hid2 ((HC4.out.next (Below.refl _ _).drew).turn t5 r5); obtain ⟨m0, m1', m2, m3, m4, m5, n0, n1, n2, n3, n4, n5⟩ := HC5.out.lt.six; have ll5 := HC5.out.lt.lt; have HS5 := hid2 s5; clear t5 r5 s5; simp only [tmV])
      | (go_at_call 40; refine Calls.mono (qTwo_c (Q := fun b => w.heap.size < b ∧ b ≠ g) 20 (hdT S1.L).at_ t (P (adv S1)).1 (.slice ad1 m1 cp1) (.slice ad5 (P (adv S1)).1.parts.length cp5) w5 (fun b hb => ⟨by omega, by omega⟩) HC5.out.si (HS5.out.weak (fun b _ hb => ⟨by have hb' : W4.drew.heap.size ≤ b := hb; simp at hb'; omega, by have hb' : W4.drew.heap.size ≤ b := hb; simp at hb'; omega⟩)) (fit_of _ _ _ _ _ _ hz0.out (by decide) (by decide) (Nat.zero_le _) zero64 zero64 hat)) ?_; rintro e w6 ⟨b6, x6, rfl, s6⟩; obtain ⟨ad6, cp6, rfl, h61, h62⟩ := s6.parts.shape; have HC6 := hid2 (HC5.out.next b6); obtain ⟨o0, o1, o2, o3, o4, o5, p0, p1, p2, p3, p4, p5⟩ := HC6.out.lt.six; have ll6 := HC6.out.lt.lt; have HS6 := hid2 s6; clear b6 s6; simp only [tmV]))
    all_goals go_wp2_with fail
    all_goals (
      have HC7 := HC6.out.put HS6.out
      have hd := HD0.out (adv S1)
      exact ⟨⟨(P (adv S1)).2, _, _, _, _, f', by omega, HC7, HN⟩, by rw [hmeas]; exact Nat.lt_of_le_of_lt (Nat.le_of_eq HC7.re.left) (by omega)⟩)
  | false =>
    go_wp2_with fail
    refine Calls.mono (qIs_c k_div _ HC2.out.re) ?_
    rintro e w2b ⟨rfl, b2b⟩
    have HC2b := hid2 (HC2.out.next b2b)
    clear HC2
    have hX := h2
    clear h2
    cases h2 : isR k_div S1 with
    | false =>
      have HE : Hid (R = (t, S1)) := by
        show _ = _
        rw [HR.out, sgr_two, if_neg (by rw [hX]; simp), if_neg (by rw [h2]; simp)]
      obtain ⟨l0, l1, l2, l3, l4, l5, _, _, _, _, _, _⟩ := HC2b.out.lt.six
      obtain ⟨q0, q1, q2, q3, q4, q5, p0, p1, p2, p3, p4, p5⟩ := HC2b.out.rs.six
      have ql := HC2b.out.rs.lt
      have ll := HC2b.out.lt.lt
      go_wp2_with fail
      have k := turn_six w2b w.heap.size (.int .i64 t.kind) (.string t.text) (.int .i64 t.n) (.int .i64 t.m) (.int .i64 t.pl) (.slice ad1 m1 cp1)
      have hgg := HC2b.out.gg
      refine bodyPost_ret (v := tmV t (.slice ad1 m1 cp1)) (by simp [results, Tryz.results111, go_sem, *]) rfl (hP.out _ t _ ?_ ?_ (by rw [HE.out]) ?_)
      · exact HC2b.out.tn.trans k (fun i hi => .inr (by simp at hi; omega))
      · rw [HE.out]
        exact HC2b.out.re.turn k (by simp; omega) (by simp; omega)
      · exact SitQ.keep k.size (fun b hb hq => ⟨by show w.heap.size ≤ b; omega, fun j => turn_cell k hb (by simp; omega)⟩) _ _ HC2b.out.si
    | true =>
      have HN : Hid (R = loopR sgMul P f' (tm 21 (hdT S1.L).at_ [t, (P (adv S1)).1]) (P (adv S1)).2) := by
        show _ = _
        rw [HR.out, sgr_two, if_neg (by rw [hX]; simp), if_pos h2]
      have hY : isR k_div S1 = true := h2
      have hkd : (hdT S1.L).kind ≠ 7 := isT_kind (isR_good h2).2
      clear HR
      go_wp2_with fail
      refine Calls.mono (qAt_c _ HC2b.out.re) ?_
      rintro e w3 ⟨rfl, b3⟩
      have HC3 := hid2 (HC2b.out.next b3)
      clear HC2b b2b b3
      go_wp2_with fail
      refine Calls.mono (qIs_c k_div _ HC3.out.re) ?_
      rintro e w3' ⟨rfl, b3'⟩
      have HC3' := hid2 (HC3.out.next b3')
      rw [hY]
      obtain ⟨i, i1, i2, i3, i4, r4⟩ := HC3'.out.re.adv hkd
      have HC4 := hid2 (HC3'.out.turn (turn_set _ _ _ _) r4)
      have hat := HC3'.out.re.tl.ok.a
      have hlt : (adv S1).L.length < S1.L.length := by show S1.L.tail.length < _; rw [List.length_tail]; omega
      clear r4 HC3 HC3' b3'
      go_wp2_with fail
      generalize w3'.setCell ⟨rb, 1, none⟩ (.int .i64 ((i : Int) + 1)) = W4 at *
      clear i1 i2 i3 i4
      obtain ⟨l0, l1, l2, l3, l4, l5, e0, e1, e2, e3, e4, e5⟩ := HC4.out.lt.six
      have ll := HC4.out.lt.lt
      have hgg := HC4.out.gg
      go_region_with (first
        | (go_at_call 130; refine Calls.mono (H1.out (adv S1) _ (HC4.out.re.next ((Below.refl _ _).drew))) ?_; rintro e w5 ⟨t5, ⟨v5, rfl, u5, rfl, s5⟩, r5⟩; obtain ⟨ad5, cp5, rfl, h51, h52⟩ := s5.parts.shape; have sz5 := t5.size; have HC5 := hid2 ((HC4.out.next (Below.refl _ _).drew).turn t5 r5); obtain ⟨m0, m1', m2, m3, m4, m5, n0, n1, n2, n3, n4, n5⟩ := HC5.out.lt.six; have ll5 := HC5.out.lt.lt; have HS5 := hid2 s5; clear t5 r5 s5; simp only [tmV])
        | (go_at_call 40; refine Calls.mono (qTwo_c (Q := fun b => w.heap.size < b ∧ b ≠ g) 21 (hdT S1.L).at_ t (P (adv S1)).1 (.slice ad1 m1 cp1) (.slice ad5 (P (adv S1)).1.parts.length cp5) w5 (fun b hb => ⟨by omega, by omega⟩) HC5.out.si (HS5.out.weak (fun b _ hb => ⟨by have hb' : W4.drew.heap.size ≤ b := hb; simp at hb'; omega, by have hb' : W4.drew.heap.size ≤ b := hb; simp at hb'; omega⟩)) (fit_of _ _ _ _ _ _ hz0.out (by decide) (by decide) (Nat.zero_le _) zero64 zero64 hat)) ?_; rintro e w6 ⟨b6, x6, rfl, s6⟩; obtain ⟨ad6, cp6, rfl, h61, h62⟩ := s6.parts.shape; have HC6 := hid2 (HC5.out.next b6); obtain ⟨o0, o1, o2, o3, o4, o5, p0, p1, p2, p3, p4, p5⟩ := HC6.out.lt.six; have ll6 := HC6.out.lt.lt; have HS6 := hid2 s6; clear b6 s6; simp only [tmV]))
      all_goals go_wp2_with fail
      all_goals (
        have HC7 := HC6.out.put HS6.out
        have hd := HD0.out (adv S1)
        exact ⟨⟨(P (adv S1)).2, _, _, _, _, f', by omega, HC7, HN⟩, by rw [hmeas]; exact Nat.lt_of_le_of_lt (Nat.le_of_eq HC7.re.left) (by omega)⟩)
set_option maxHeartbeats 8000000 in
theorem qSum_c {z rb tb : Nat} {LL : List Tk} {c : Int} {o : Nat} (hz : z ≤ 9223372036854775807) {P : Rdf} (HP : RdC z rb tb LL c o 111 P) (HD : LenE P) : RdC z rb tb LL c o 88 (leftR sgSum P) := fun S w hr => by
  have H1 := hid2 HP
  have hz0 := hid2 hz
  have HD0 := hid2 HD
  have hl0 := hr.lts
  obtain ⟨R, hR⟩ : ∃ R, Hid (R = leftR sgSum P S) := ⟨_, rfl⟩
  rw [← hR.out]
  have hP : Hid (∀ w' t u, Turn [rb] w w' → Rr z w' rb tb LL c R.2 o → R.1 = t → SitB w.heap.size z w' t u → QtP w.heap.size z w rb tb LL c o R (.returned (tmV t u)) w') := fun w' t u h1 h2 h3 h4 => ⟨h1, ⟨_, rfl, u, by rw [h3], by rw [h3]; exact h4⟩, h2⟩
  generalize QtP w.heap.size z w rb tb LL c o R = Post at *
  clear HP hz HD
  go_enter Tryz.func88, Tryz.ntmps88
  go_wp2_with fail
  refine Calls.mono (H1.out S _ (hr.next ((Below.refl _ _).alloc (Nat.le_refl _) _))) ?_
  rintro e w1 ⟨t1, ⟨v, rfl, u, rfl, s1⟩, r1⟩
  simp only [tmV]
  obtain ⟨ad, cp, rfl, hcp1, hcp2⟩ := s1.parts.shape
  have X0 := (Box.new w zs6 33).turn t1 (by simp; omega)
  have hw1 : w.heap.size + 1 ≤ w1.heap.size := by have := t1.size; simpa using this
  have C0 : LvS z w (w1.alloc (.cells (tmQ (P S).1 (.slice ad (P S).1.parts.length cp)).toArray 33)) rb tb LL c o w1.heap.size (P S).1 (.slice ad (P S).1.parts.length cp) (P S).2 := by
    have k := (Below.refl w1.heap.size w1).alloc (Nat.le_refl _) (.cells (tmQ (P S).1 (.slice ad (P S).1.parts.length cp)).toArray 33)
    exact ⟨r1.next k, (tnA t1).andBelow k, X0.next k, Box.new w1 _ _, SitQ.keep k.size (fun b hb hq => ⟨⟨by have : (w.alloc (.cells zs6.toArray 33)).heap.size ≤ b := hq; simp at this; omega, by omega⟩, fun j => cell_of_below k hb j⟩) _ _ s1, by omega, hl0⟩
  have HC0 := hid2 C0
  have hR0 : Hid (R = loopR sgSum P (P S).2.L.length (P S).1 (P S).2) := hR.out
  clear C0 X0 s1 r1 t1 hR
  generalize (P S).1 = t0 at *
  generalize (P S).2 = S0 at *
  go_wp2_with fail
  obtain ⟨g, hg⟩ : ∃ g, Hid (g = w1.heap.size) := ⟨_, rfl⟩
  rw [← hg.out] at HC0 ⊢
  go_loopw [] (fun wr => ∃ (S1 : Sr) (t : Tm) (ad : Option Addr) (m cp f : Nat), S1.L.length ≤ f ∧ Hid (LvS z w wr rb tb LL c o g t (.slice ad m cp) S1) ∧ Hid (R = loopR sgSum P f t S1)) (fun wr => LL.length - qI wr rb)
  · exact ⟨S0, t0, ad, _, cp, S0.L.length, Nat.le_refl _, HC0, hR0⟩
  obtain ⟨S1, t, ad1, m1, cp1, f, hf, HC, HR⟩ := hrel
  clear HC0 hR0
  have hpos := HC.out.re.tl.pos
  have hmeas := HC.out.re.left
  obtain ⟨f', rfl⟩ : ∃ f', f = f' + 1 := ⟨f - 1, by omega⟩
  rw [loopR] at HR
  go_wp2_with fail
  refine Calls.mono (qIs_c k_add _ HC.out.re) ?_
  rintro e w2 ⟨rfl, b2⟩
  have HC2 := hid2 (HC.out.next b2)
  cases h2 : isR k_add S1 with
  | true =>
    have HN : Hid (R = loopR sgSum P f' (tm 18 (hdT S1.L).at_ [t, (P (adv S1)).1]) (P (adv S1)).2) := by
      show _ = _
      rw [HR.out, sgr_two, if_pos h2]
    have hY : isR k_sub S1 = false := isR_ne h2 (by decide)
    have hkd : (hdT S1.L).kind ≠ 7 := isT_kind (isR_good h2).2
    clear HR
    go_wp2_with fail
    refine Calls.mono (qAt_c _ HC2.out.re) ?_
    rintro e w3 ⟨rfl, b3⟩
    have HC3 := hid2 (HC2.out.next b3)
    clear HC2 b2 b3
    go_wp2_with fail
    refine Calls.mono (qIs_c k_sub _ HC3.out.re) ?_
    rintro e w3' ⟨rfl, b3'⟩
    have HC3' := hid2 (HC3.out.next b3')
    rw [hY]
    obtain ⟨i, i1, i2, i3, i4, r4⟩ := HC3'.out.re.adv hkd
    have HC4 := hid2 (HC3'.out.turn (turn_set _ _ _ _) r4)
    have hat := HC3'.out.re.tl.ok.a
    have hlt : (adv S1).L.length < S1.L.length := by show S1.L.tail.length < _; rw [List.length_tail]; omega
    clear r4 HC3 HC3' b3'
    go_wp2_with fail
    generalize w3'.setCell ⟨rb, 1, none⟩ (.int .i64 ((i : Int) + 1)) = W4 at *
    clear i1 i2 i3 i4
    obtain ⟨l0, l1, l2, l3, l4, l5, e0, e1, e2, e3, e4, e5⟩ := HC4.out.lt.six
    have ll := HC4.out.lt.lt
    have hgg := HC4.out.gg
    go_region_with (first
      | (go_at_call 111; refine Calls.mono (H1.out (adv S1) _ (HC4.out.re.next ((Below.refl _ _).drew))) ?_; rintro e w5 ⟨t5, ⟨v5, rfl, u5, rfl, s5⟩, r5⟩; obtain ⟨ad5, cp5, rfl, h51, h52⟩ := s5.parts.shape; have sz5 := t5.size; have HC5 := hid2 ((HC4.out.next (Below.refl _ _).drew).turn t5 r5); obtain ⟨m0, m1', m2, m3, m4, m5, n0, n1, n2, n3, n4, n5⟩ := HC5.out.lt.six; have ll5 := HC5.out.lt.lt; have HS5 := hid2 s5; clear t5 r5 s5; simp only [tmV])
      | (go_at_call 40; refine Calls.mono (qTwo_c (Q := fun b => w.heap.size < b ∧ b ≠ g) 18 (hdT S1.L).at_ t (P (adv S1)).1 (.slice ad1 m1 cp1) (.slice ad5 (P (adv S1)).1.parts.length cp5) w5 (fun b hb => ⟨by omega, by omega⟩) HC5.out.si (HS5.out.weak (fun b _ hb => ⟨by have hb' : W4.drew.heap.size ≤ b := hb; simp at hb'; omega, by have hb' : W4.drew.heap.size ≤ b := hb; simp at hb'; omega⟩)) (fit_of _ _ _ _ _ _ hz0.out (by decide) (by decide) (Nat.zero_le _) zero64 zero64 hat)) ?_; rintro e w6 ⟨b6, x6, rfl, s6⟩; obtain ⟨ad6, cp6, rfl, h61, h62⟩ := s6.parts.shape; have HC6 := hid2 (HC5.out.next b6); obtain ⟨o0, o1, o2, o3, o4, o5, p0, p1, p2, p3, p4, p5⟩ := HC6.out.lt.six; have ll6 := HC6.out.lt.lt; have HS6 := hid2 s6; clear b6 s6; simp only [tmV]))
    all_goals go_wp2_with fail
    all_goals (
      have HC7 := HC6.out.put HS6.out
      have hd := HD0.out (adv S1)
      exact ⟨⟨(P (adv S1)).2, _, _, _, _, f', by omega, HC7, HN⟩, by rw [hmeas]; exact Nat.lt_of_le_of_lt (Nat.le_of_eq HC7.re.left) (by omega)⟩)
  | false =>
    go_wp2_with fail
    refine Calls.mono (qIs_c k_sub _ HC2.out.re) ?_
    rintro e w2b ⟨rfl, b2b⟩
    have HC2b := hid2 (HC2.out.next b2b)
    clear HC2
    have hX := h2
    clear h2
    cases h2 : isR k_sub S1 with
    | false =>
      have HE : Hid (R = (t, S1)) := by
        show _ = _
        rw [HR.out, sgr_two, if_neg (by rw [hX]; simp), if_neg (by rw [h2]; simp)]
      obtain ⟨l0, l1, l2, l3, l4, l5, _, _, _, _, _, _⟩ := HC2b.out.lt.six
      obtain ⟨q0, q1, q2, q3, q4, q5, p0, p1, p2, p3, p4, p5⟩ := HC2b.out.rs.six
      have ql := HC2b.out.rs.lt
      have ll := HC2b.out.lt.lt
      go_wp2_with fail
      have k := turn_six w2b w.heap.size (.int .i64 t.kind) (.string t.text) (.int .i64 t.n) (.int .i64 t.m) (.int .i64 t.pl) (.slice ad1 m1 cp1)
      have hgg := HC2b.out.gg
      refine bodyPost_ret (v := tmV t (.slice ad1 m1 cp1)) (by simp [results, Tryz.results88, go_sem, *]) rfl (hP.out _ t _ ?_ ?_ (by rw [HE.out]) ?_)
      · exact HC2b.out.tn.trans k (fun i hi => .inr (by simp at hi; omega))
      · rw [HE.out]
        exact HC2b.out.re.turn k (by simp; omega) (by simp; omega)
      · exact SitQ.keep k.size (fun b hb hq => ⟨by show w.heap.size ≤ b; omega, fun j => turn_cell k hb (by simp; omega)⟩) _ _ HC2b.out.si
    | true =>
      have HN : Hid (R = loopR sgSum P f' (tm 19 (hdT S1.L).at_ [t, (P (adv S1)).1]) (P (adv S1)).2) := by
        show _ = _
        rw [HR.out, sgr_two, if_neg (by rw [hX]; simp), if_pos h2]
      have hY : isR k_sub S1 = true := h2
      have hkd : (hdT S1.L).kind ≠ 7 := isT_kind (isR_good h2).2
      clear HR
      go_wp2_with fail
      refine Calls.mono (qAt_c _ HC2b.out.re) ?_
      rintro e w3 ⟨rfl, b3⟩
      have HC3 := hid2 (HC2b.out.next b3)
      clear HC2b b2b b3
      go_wp2_with fail
      refine Calls.mono (qIs_c k_sub _ HC3.out.re) ?_
      rintro e w3' ⟨rfl, b3'⟩
      have HC3' := hid2 (HC3.out.next b3')
      rw [hY]
      obtain ⟨i, i1, i2, i3, i4, r4⟩ := HC3'.out.re.adv hkd
      have HC4 := hid2 (HC3'.out.turn (turn_set _ _ _ _) r4)
      have hat := HC3'.out.re.tl.ok.a
      have hlt : (adv S1).L.length < S1.L.length := by show S1.L.tail.length < _; rw [List.length_tail]; omega
      clear r4 HC3 HC3' b3'
      go_wp2_with fail
      generalize w3'.setCell ⟨rb, 1, none⟩ (.int .i64 ((i : Int) + 1)) = W4 at *
      clear i1 i2 i3 i4
      obtain ⟨l0, l1, l2, l3, l4, l5, e0, e1, e2, e3, e4, e5⟩ := HC4.out.lt.six
      have ll := HC4.out.lt.lt
      have hgg := HC4.out.gg
      go_region_with (first
        | (go_at_call 111; refine Calls.mono (H1.out (adv S1) _ (HC4.out.re.next ((Below.refl _ _).drew))) ?_; rintro e w5 ⟨t5, ⟨v5, rfl, u5, rfl, s5⟩, r5⟩; obtain ⟨ad5, cp5, rfl, h51, h52⟩ := s5.parts.shape; have sz5 := t5.size; have HC5 := hid2 ((HC4.out.next (Below.refl _ _).drew).turn t5 r5); obtain ⟨m0, m1', m2, m3, m4, m5, n0, n1, n2, n3, n4, n5⟩ := HC5.out.lt.six; have ll5 := HC5.out.lt.lt; have HS5 := hid2 s5; clear t5 r5 s5; simp only [tmV])
        | (go_at_call 40; refine Calls.mono (qTwo_c (Q := fun b => w.heap.size < b ∧ b ≠ g) 19 (hdT S1.L).at_ t (P (adv S1)).1 (.slice ad1 m1 cp1) (.slice ad5 (P (adv S1)).1.parts.length cp5) w5 (fun b hb => ⟨by omega, by omega⟩) HC5.out.si (HS5.out.weak (fun b _ hb => ⟨by have hb' : W4.drew.heap.size ≤ b := hb; simp at hb'; omega, by have hb' : W4.drew.heap.size ≤ b := hb; simp at hb'; omega⟩)) (fit_of _ _ _ _ _ _ hz0.out (by decide) (by decide) (Nat.zero_le _) zero64 zero64 hat)) ?_; rintro e w6 ⟨b6, x6, rfl, s6⟩; obtain ⟨ad6, cp6, rfl, h61, h62⟩ := s6.parts.shape; have HC6 := hid2 (HC5.out.next b6); obtain ⟨o0, o1, o2, o3, o4, o5, p0, p1, p2, p3, p4, p5⟩ := HC6.out.lt.six; have ll6 := HC6.out.lt.lt; have HS6 := hid2 s6; clear b6 s6; simp only [tmV]))
      all_goals go_wp2_with fail
      all_goals (
        have HC7 := HC6.out.put HS6.out
        have hd := HD0.out (adv S1)
        exact ⟨⟨(P (adv S1)).2, _, _, _, _, f', by omega, HC7, HN⟩, by rw [hmeas]; exact Nat.lt_of_le_of_lt (Nat.le_of_eq HC7.re.left) (by omega)⟩)
set_option maxHeartbeats 8000000 in
theorem qConj_c {z rb tb : Nat} {LL : List Tk} {c : Int} {o : Nat} (hz : z ≤ 9223372036854775807) {P : Rdf} (HP : RdC z rb tb LL c o 62 P) (HD : LenE P) : RdC z rb tb LL c o 38 (leftR sgAnd P) := fun S w hr => by
  have H1 := hid2 HP
  have hz0 := hid2 hz
  have HD0 := hid2 HD
  have hl0 := hr.lts
  obtain ⟨R, hR⟩ : ∃ R, Hid (R = leftR sgAnd P S) := ⟨_, rfl⟩
  rw [← hR.out]
  have hP : Hid (∀ w' t u, Turn [rb] w w' → Rr z w' rb tb LL c R.2 o → R.1 = t → SitB w.heap.size z w' t u → QtP w.heap.size z w rb tb LL c o R (.returned (tmV t u)) w') := fun w' t u h1 h2 h3 h4 => ⟨h1, ⟨_, rfl, u, by rw [h3], by rw [h3]; exact h4⟩, h2⟩
  generalize QtP w.heap.size z w rb tb LL c o R = Post at *
  clear HP hz HD
  go_enter Tryz.func38, Tryz.ntmps38
  go_wp2_with fail
  refine Calls.mono (H1.out S _ (hr.next ((Below.refl _ _).alloc (Nat.le_refl _) _))) ?_
  rintro e w1 ⟨t1, ⟨v, rfl, u, rfl, s1⟩, r1⟩
  simp only [tmV]
  obtain ⟨ad, cp, rfl, hcp1, hcp2⟩ := s1.parts.shape
  have X0 := (Box.new w zs6 33).turn t1 (by simp; omega)
  have hw1 : w.heap.size + 1 ≤ w1.heap.size := by have := t1.size; simpa using this
  have C0 : LvS z w (w1.alloc (.cells (tmQ (P S).1 (.slice ad (P S).1.parts.length cp)).toArray 33)) rb tb LL c o w1.heap.size (P S).1 (.slice ad (P S).1.parts.length cp) (P S).2 := by
    have k := (Below.refl w1.heap.size w1).alloc (Nat.le_refl _) (.cells (tmQ (P S).1 (.slice ad (P S).1.parts.length cp)).toArray 33)
    exact ⟨r1.next k, (tnA t1).andBelow k, X0.next k, Box.new w1 _ _, SitQ.keep k.size (fun b hb hq => ⟨⟨by have : (w.alloc (.cells zs6.toArray 33)).heap.size ≤ b := hq; simp at this; omega, by omega⟩, fun j => cell_of_below k hb j⟩) _ _ s1, by omega, hl0⟩
  have HC0 := hid2 C0
  have hR0 : Hid (R = loopR sgAnd P (P S).2.L.length (P S).1 (P S).2) := hR.out
  clear C0 X0 s1 r1 t1 hR
  generalize (P S).1 = t0 at *
  generalize (P S).2 = S0 at *
  go_wp2_with fail
  obtain ⟨g, hg⟩ : ∃ g, Hid (g = w1.heap.size) := ⟨_, rfl⟩
  rw [← hg.out] at HC0 ⊢
  go_loopw [] (fun wr => ∃ (S1 : Sr) (t : Tm) (ad : Option Addr) (m cp f : Nat), S1.L.length ≤ f ∧ Hid (LvS z w wr rb tb LL c o g t (.slice ad m cp) S1) ∧ Hid (R = loopR sgAnd P f t S1)) (fun wr => LL.length - qI wr rb)
  · exact ⟨S0, t0, ad, _, cp, S0.L.length, Nat.le_refl _, HC0, hR0⟩
  obtain ⟨S1, t, ad1, m1, cp1, f, hf, HC, HR⟩ := hrel
  clear HC0 hR0
  have hpos := HC.out.re.tl.pos
  have hmeas := HC.out.re.left
  obtain ⟨f', rfl⟩ : ∃ f', f = f' + 1 := ⟨f - 1, by omega⟩
  rw [loopR] at HR
  go_wp2_with fail
  refine Calls.mono (qIs_c k_and _ HC.out.re) ?_
  rintro e w2 ⟨rfl, b2⟩
  have HC2 := hid2 (HC.out.next b2)
  cases h2 : isR k_and S1 with
  | false =>
    have HE : Hid (R = (t, S1)) := by
      show _ = _
      rw [HR.out, sgr_one, if_neg (by rw [h2]; simp)]
    obtain ⟨l0, l1, l2, l3, l4, l5, _, _, _, _, _, _⟩ := HC2.out.lt.six
    obtain ⟨q0, q1, q2, q3, q4, q5, p0, p1, p2, p3, p4, p5⟩ := HC2.out.rs.six
    have ql := HC2.out.rs.lt
    have ll := HC2.out.lt.lt
    go_wp2_with fail
    have k := turn_six w2 w.heap.size (.int .i64 t.kind) (.string t.text) (.int .i64 t.n) (.int .i64 t.m) (.int .i64 t.pl) (.slice ad1 m1 cp1)
    have hgg := HC2.out.gg
    refine bodyPost_ret (v := tmV t (.slice ad1 m1 cp1)) (by simp [results, Tryz.results38, go_sem, *]) rfl (hP.out _ t _ ?_ ?_ (by rw [HE.out]) ?_)
    · exact HC2.out.tn.trans k (fun i hi => .inr (by simp at hi; omega))
    · rw [HE.out]
      exact HC2.out.re.turn k (by simp; omega) (by simp; omega)
    · exact SitQ.keep k.size (fun b hb hq => ⟨by show w.heap.size ≤ b; omega, fun j => turn_cell k hb (by simp; omega)⟩) _ _ HC2.out.si
  | true =>
    have HN : Hid (R = loopR sgAnd P f' (tm 27 (hdT S1.L).at_ [t, (P (adv S1)).1]) (P (adv S1)).2) := by
      show _ = _
      rw [HR.out, sgr_one, if_pos h2]
    have hkd : (hdT S1.L).kind ≠ 7 := isT_kind (isR_good h2).2
    clear HR
    go_wp2_with fail
    refine Calls.mono (qAt_c _ HC2.out.re) ?_
    rintro e w3 ⟨rfl, b3⟩
    have HC3 := hid2 (HC2.out.next b3)
    obtain ⟨i, i1, i2, i3, i4, r4⟩ := HC3.out.re.adv hkd
    have HC4 := hid2 (HC3.out.turn (turn_set _ _ _ _) r4)
    have hat := HC3.out.re.tl.ok.a
    have hlen := adv_len S1
    have hlt : (adv S1).L.length < S1.L.length := by show S1.L.tail.length < _; rw [List.length_tail]; omega
    clear r4 HC2 HC3 b2 b3
    go_wp2_with fail
    generalize w3.setCell ⟨rb, 1, none⟩ (.int .i64 ((i : Int) + 1)) = W4 at *
    clear i1 i2 i3 i4
    obtain ⟨l0, l1, l2, l3, l4, l5, e0, e1, e2, e3, e4, e5⟩ := HC4.out.lt.six
    have ll := HC4.out.lt.lt
    have hgg := HC4.out.gg
    go_region_with (first
      | (go_at_call 62; refine Calls.mono (H1.out (adv S1) _ (HC4.out.re.next ((Below.refl _ _).drew))) ?_; rintro e w5 ⟨t5, ⟨v5, rfl, u5, rfl, s5⟩, r5⟩; obtain ⟨ad5, cp5, rfl, h51, h52⟩ := s5.parts.shape; have sz5 := t5.size; have HC5 := hid2 ((HC4.out.next (Below.refl _ _).drew).turn t5 r5); obtain ⟨m0, m1', m2, m3, m4, m5, n0, n1, n2, n3, n4, n5⟩ := HC5.out.lt.six; have ll5 := HC5.out.lt.lt; have HS5 := hid2 s5; clear t5 r5 s5; simp only [tmV])
      | (go_at_call 40; refine Calls.mono (qTwo_c (Q := fun b => w.heap.size < b ∧ b ≠ g) 27 (hdT S1.L).at_ t (P (adv S1)).1 (.slice ad1 m1 cp1) (.slice ad5 (P (adv S1)).1.parts.length cp5) w5 (fun b hb => ⟨by omega, by omega⟩) HC5.out.si (HS5.out.weak (fun b _ hb => ⟨by have hb' : W4.drew.heap.size ≤ b := hb; simp at hb'; omega, by have hb' : W4.drew.heap.size ≤ b := hb; simp at hb'; omega⟩)) (fit_of _ _ _ _ _ _ hz0.out (by decide) (by decide) (Nat.zero_le _) zero64 zero64 hat)) ?_; rintro e w6 ⟨b6, x6, rfl, s6⟩; obtain ⟨ad6, cp6, rfl, h61, h62⟩ := s6.parts.shape; have HC6 := hid2 (HC5.out.next b6); obtain ⟨o0, o1, o2, o3, o4, o5, p0, p1, p2, p3, p4, p5⟩ := HC6.out.lt.six; have ll6 := HC6.out.lt.lt; have HS6 := hid2 s6; clear b6 s6; simp only [tmV]))
    all_goals go_wp2_with fail
    all_goals (
      have HC7 := HC6.out.put HS6.out
      have hd := HD0.out (adv S1)
      exact ⟨⟨(P (adv S1)).2, _, _, _, _, f', by omega, HC7, HN⟩, by rw [hmeas]; exact Nat.lt_of_le_of_lt (Nat.le_of_eq HC7.re.left) (by omega)⟩)
set_option maxHeartbeats 8000000 in
theorem qExpr_c {z rb tb : Nat} {LL : List Tk} {c : Int} {o : Nat} (hz : z ≤ 9223372036854775807) {P : Rdf} (HP : RdC z rb tb LL c o 38 P) (HD : LenE P) : RdC z rb tb LL c o 22 (leftR sgOr P) := fun S w hr => by
  have H1 := hid2 HP
  have hz0 := hid2 hz
  have HD0 := hid2 HD
  have hl0 := hr.lts
  obtain ⟨R, hR⟩ : ∃ R, Hid (R = leftR sgOr P S) := ⟨_, rfl⟩
  rw [← hR.out]
  have hP : Hid (∀ w' t u, Turn [rb] w w' → Rr z w' rb tb LL c R.2 o → R.1 = t → SitB w.heap.size z w' t u → QtP w.heap.size z w rb tb LL c o R (.returned (tmV t u)) w') := fun w' t u h1 h2 h3 h4 => ⟨h1, ⟨_, rfl, u, by rw [h3], by rw [h3]; exact h4⟩, h2⟩
  generalize QtP w.heap.size z w rb tb LL c o R = Post at *
  clear HP hz HD
  go_enter Tryz.func22, Tryz.ntmps22
  go_wp2_with fail
  refine Calls.mono (H1.out S _ (hr.next ((Below.refl _ _).alloc (Nat.le_refl _) _))) ?_
  rintro e w1 ⟨t1, ⟨v, rfl, u, rfl, s1⟩, r1⟩
  simp only [tmV]
  obtain ⟨ad, cp, rfl, hcp1, hcp2⟩ := s1.parts.shape
  have X0 := (Box.new w zs6 33).turn t1 (by simp; omega)
  have hw1 : w.heap.size + 1 ≤ w1.heap.size := by have := t1.size; simpa using this
  have C0 : LvS z w (w1.alloc (.cells (tmQ (P S).1 (.slice ad (P S).1.parts.length cp)).toArray 33)) rb tb LL c o w1.heap.size (P S).1 (.slice ad (P S).1.parts.length cp) (P S).2 := by
    have k := (Below.refl w1.heap.size w1).alloc (Nat.le_refl _) (.cells (tmQ (P S).1 (.slice ad (P S).1.parts.length cp)).toArray 33)
    exact ⟨r1.next k, (tnA t1).andBelow k, X0.next k, Box.new w1 _ _, SitQ.keep k.size (fun b hb hq => ⟨⟨by have : (w.alloc (.cells zs6.toArray 33)).heap.size ≤ b := hq; simp at this; omega, by omega⟩, fun j => cell_of_below k hb j⟩) _ _ s1, by omega, hl0⟩
  have HC0 := hid2 C0
  have hR0 : Hid (R = loopR sgOr P (P S).2.L.length (P S).1 (P S).2) := hR.out
  clear C0 X0 s1 r1 t1 hR
  generalize (P S).1 = t0 at *
  generalize (P S).2 = S0 at *
  go_wp2_with fail
  obtain ⟨g, hg⟩ : ∃ g, Hid (g = w1.heap.size) := ⟨_, rfl⟩
  rw [← hg.out] at HC0 ⊢
  go_loopw [] (fun wr => ∃ (S1 : Sr) (t : Tm) (ad : Option Addr) (m cp f : Nat), S1.L.length ≤ f ∧ Hid (LvS z w wr rb tb LL c o g t (.slice ad m cp) S1) ∧ Hid (R = loopR sgOr P f t S1)) (fun wr => LL.length - qI wr rb)
  · exact ⟨S0, t0, ad, _, cp, S0.L.length, Nat.le_refl _, HC0, hR0⟩
  obtain ⟨S1, t, ad1, m1, cp1, f, hf, HC, HR⟩ := hrel
  clear HC0 hR0
  have hpos := HC.out.re.tl.pos
  have hmeas := HC.out.re.left
  obtain ⟨f', rfl⟩ : ∃ f', f = f' + 1 := ⟨f - 1, by omega⟩
  rw [loopR] at HR
  go_wp2_with fail
  refine Calls.mono (qIs_c k_or _ HC.out.re) ?_
  rintro e w2 ⟨rfl, b2⟩
  have HC2 := hid2 (HC.out.next b2)
  cases h2 : isR k_or S1 with
  | false =>
    have HE : Hid (R = (t, S1)) := by
      show _ = _
      rw [HR.out, sgr_one, if_neg (by rw [h2]; simp)]
    obtain ⟨l0, l1, l2, l3, l4, l5, _, _, _, _, _, _⟩ := HC2.out.lt.six
    obtain ⟨q0, q1, q2, q3, q4, q5, p0, p1, p2, p3, p4, p5⟩ := HC2.out.rs.six
    have ql := HC2.out.rs.lt
    have ll := HC2.out.lt.lt
    go_wp2_with fail
    have k := turn_six w2 w.heap.size (.int .i64 t.kind) (.string t.text) (.int .i64 t.n) (.int .i64 t.m) (.int .i64 t.pl) (.slice ad1 m1 cp1)
    have hgg := HC2.out.gg
    refine bodyPost_ret (v := tmV t (.slice ad1 m1 cp1)) (by simp [results, Tryz.results22, go_sem, *]) rfl (hP.out _ t _ ?_ ?_ (by rw [HE.out]) ?_)
    · exact HC2.out.tn.trans k (fun i hi => .inr (by simp at hi; omega))
    · rw [HE.out]
      exact HC2.out.re.turn k (by simp; omega) (by simp; omega)
    · exact SitQ.keep k.size (fun b hb hq => ⟨by show w.heap.size ≤ b; omega, fun j => turn_cell k hb (by simp; omega)⟩) _ _ HC2.out.si
  | true =>
    have HN : Hid (R = loopR sgOr P f' (tm 28 (hdT S1.L).at_ [t, (P (adv S1)).1]) (P (adv S1)).2) := by
      show _ = _
      rw [HR.out, sgr_one, if_pos h2]
    have hkd : (hdT S1.L).kind ≠ 7 := isT_kind (isR_good h2).2
    clear HR
    go_wp2_with fail
    refine Calls.mono (qAt_c _ HC2.out.re) ?_
    rintro e w3 ⟨rfl, b3⟩
    have HC3 := hid2 (HC2.out.next b3)
    obtain ⟨i, i1, i2, i3, i4, r4⟩ := HC3.out.re.adv hkd
    have HC4 := hid2 (HC3.out.turn (turn_set _ _ _ _) r4)
    have hat := HC3.out.re.tl.ok.a
    have hlen := adv_len S1
    have hlt : (adv S1).L.length < S1.L.length := by show S1.L.tail.length < _; rw [List.length_tail]; omega
    clear r4 HC2 HC3 b2 b3
    go_wp2_with fail
    generalize w3.setCell ⟨rb, 1, none⟩ (.int .i64 ((i : Int) + 1)) = W4 at *
    clear i1 i2 i3 i4
    obtain ⟨l0, l1, l2, l3, l4, l5, e0, e1, e2, e3, e4, e5⟩ := HC4.out.lt.six
    have ll := HC4.out.lt.lt
    have hgg := HC4.out.gg
    go_region_with (first
      | (go_at_call 38; refine Calls.mono (H1.out (adv S1) _ (HC4.out.re.next ((Below.refl _ _).drew))) ?_; rintro e w5 ⟨t5, ⟨v5, rfl, u5, rfl, s5⟩, r5⟩; obtain ⟨ad5, cp5, rfl, h51, h52⟩ := s5.parts.shape; have sz5 := t5.size; have HC5 := hid2 ((HC4.out.next (Below.refl _ _).drew).turn t5 r5); obtain ⟨m0, m1', m2, m3, m4, m5, n0, n1, n2, n3, n4, n5⟩ := HC5.out.lt.six; have ll5 := HC5.out.lt.lt; have HS5 := hid2 s5; clear t5 r5 s5; simp only [tmV])
      | (go_at_call 40; refine Calls.mono (qTwo_c (Q := fun b => w.heap.size < b ∧ b ≠ g) 28 (hdT S1.L).at_ t (P (adv S1)).1 (.slice ad1 m1 cp1) (.slice ad5 (P (adv S1)).1.parts.length cp5) w5 (fun b hb => ⟨by omega, by omega⟩) HC5.out.si (HS5.out.weak (fun b _ hb => ⟨by have hb' : W4.drew.heap.size ≤ b := hb; simp at hb'; omega, by have hb' : W4.drew.heap.size ≤ b := hb; simp at hb'; omega⟩)) (fit_of _ _ _ _ _ _ hz0.out (by decide) (by decide) (Nat.zero_le _) zero64 zero64 hat)) ?_; rintro e w6 ⟨b6, x6, rfl, s6⟩; obtain ⟨ad6, cp6, rfl, h61, h62⟩ := s6.parts.shape; have HC6 := hid2 (HC5.out.next b6); obtain ⟨o0, o1, o2, o3, o4, o5, p0, p1, p2, p3, p4, p5⟩ := HC6.out.lt.six; have ll6 := HC6.out.lt.lt; have HS6 := hid2 s6; clear b6 s6; simp only [tmV]))
    all_goals go_wp2_with fail
    all_goals (
      have HC7 := HC6.out.put HS6.out
      have hd := HD0.out (adv S1)
      exact ⟨⟨(P (adv S1)).2, _, _, _, _, f', by omega, HC7, HN⟩, by rw [hmeas]; exact Nat.lt_of_le_of_lt (Nat.le_of_eq HC7.re.left) (by omega)⟩)
end Go.Proofs.YtecdfnpbcabdnaaGreatDoor

/- Package parse: joined. -/
import Derived.Test.YtecdfnpbcabdnaaGreatDoorPxF
namespace Go.Proofs.YtecdfnpbcabdnaaGreatDoor
open Go.RowKit Go.Lib

theorem SitQ.turnQ {Q : Nat → Prop} {S : List Nat} {z : Nat} {w w' : World} {t : Tm} {v : Value} (h : SitQ Q z w t v) (k : Turn S w w') (hS : ∀ i ∈ S, ¬ Q i) : SitQ Q z w' t v :=
  SitQ.keep k.size (fun b hb hq => ⟨hq, fun _ => turn_cell k hb (fun hm => hS b hm hq)⟩) t v h
theorem box_two {w : World} {g : Nat} {x y : Tm} {u v : Value} (h : Box w g (tmL x u ++ tmL y v)) : Six w g 0 x u ∧ Six w g 6 y v :=
  ⟨⟨h.cell 0 _ rfl, h.cell 1 _ rfl, h.cell 2 _ rfl, h.cell 3 _ rfl, h.cell 4 _ rfl, h.cell 5 _ rfl⟩, ⟨h.cell 6 _ rfl, h.cell 7 _ rfl, h.cell 8 _ rfl, h.cell 9 _ rfl, h.cell 10 _ rfl, h.cell 11 _ rfl⟩⟩
/-- Signs as the heap holds them. -/
def sgC (sg : Sg) : List Value := sg.flatMap fun s => [.string s.1, .int .i64 s.2]
theorem sgC_get : ∀ (sg : Sg) (i q : Nat), q < 2 → (hi : i < sg.length) → (sgC sg)[i * 2 + q]? = ([.string sg[i].1, .int .i64 sg[i].2] : List Value)[q]?
  | [], i, q, _, hi => by simp at hi
  | p :: r, 0, q, hq, hi => by
    show (([.string p.1, .int .i64 p.2] : List Value) ++ sgC r)[0 * 2 + q]? = _
    rw [Nat.zero_mul, Nat.zero_add, List.getElem?_append_left (by simpa using hq)]
    rfl
  | p :: r, i + 1, q, hq, hi => by
    show (([.string p.1, .int .i64 p.2] : List Value) ++ sgC r)[(i + 1) * 2 + q]? = _
    rw [List.getElem?_append_right (by simp; omega), show (i + 1) * 2 + q - ([.string p.1, .int .i64 p.2] : List Value).length = i * 2 + q by simp; omega]
    exact sgC_get r i q hq (by simpa using hi)
theorem sitq_two {Q : Nat → Prop} {z : Nat} {w : World} {t x y : Tm} {g : Nat} {u v : Value} (hf : Fit z t) (hp : t.parts = [x, y]) (hg : g < w.heap.size) (hB : Q g) (h6 : Six w g 0 x u) (h7 : Six w g 6 y v) (hx : SitQ Q z w x u) (hy : SitQ Q z w y v) : SitQ Q z w t (.slice (some ⟨g, 0, none⟩) 2 2) := by
  rw [sitq_iff, hp]
  refine ⟨hf, _, 2, rfl, Nat.le_refl _, by decide, .inr ⟨g, 0, rfl, hg, hB, fun i hi => ?_⟩⟩
  have h0 : i = 0 ∨ i = 1 := by simp at hi; omega
  rcases h0 with rfl | rfl
  · exact ⟨u, h6, hx⟩
  · exact ⟨v, h7, hy⟩
abbrev VJo (Q : Nat → Prop) (z : Nat) : Tm × Bool → Value → World → Prop := fun y v w' => ∃ u, v = .tuple #[tmV y.1 u, .bool y.2] ∧ SitQ Q z w' y.1 u
/-- What a method reads at a level. -/
def LvC (z rb tb lb : Nat) (c : Int) (o fn : Nat) (lv : Int) (p : Ps) : Prop := ∀ L w, Rea z w rb tb lb c L o → Calls Tryz.prog fn #[.pointer (some ⟨rb, 0, none⟩), .int .i64 lv] w (Out (VTm w.heap.size z) z w rb tb lb c o (p L))
/-- Between two signs that are looked at. -/
structure JoS (z : Nat) (w W : World) (rb tb lb : Nat) (c : Int) (L : List Tk) (o : Nat) (Q : Nat → Prop) (x : Tm) (ux : Value) (sb : Nat) (sg : Sg) : Prop where
  fb : Box W w.heap.size (tmL x ux)
  rs : Box W (w.heap.size + 1) zs6
  re : Rea z W rb tb lb c L o
  tn : Turn [rb] w W
  st : SitQ (fun b => Q b ∧ b < w.heap.size) z W x ux
  sc : ∀ q u, (sgC sg)[q]? = some u → W.cell? ⟨sb, q, none⟩ = some u
  sl : sb < w.heap.size ∧ sb ≠ rb
  hr : rb < w.heap.size ∧ tb < w.heap.size ∧ lb < w.heap.size
  hB : ¬ Q rb
theorem JoS.turn {z : Nat} {w W W' : World} {rb tb lb : Nat} {c : Int} {L L' : List Tk} {o : Nat} {Q : Nat → Prop} {x : Tm} {ux : Value} {sb : Nat} {sg : Sg} (h : JoS z w W rb tb lb c L o Q x ux sb sg) (k : Turn [rb] W W') (r : Rea z W' rb tb lb c L' o) : JoS z w W' rb tb lb c L' o Q x ux sb sg := by
  have h1 := h.hr
  have h2 := h.hB
  have h3 := h.sl
  have h4 := h.fb.lt
  exact ⟨h.fb.turn k (by simp; omega), h.rs.turn k (by simp; omega), r, Go.Proofs.YtecdfnpbcabdnaaGreatDoor.tn h.tn k, h.st.turnQ k (by simp only [List.mem_singleton]; rintro i rfl hh; exact h2 hh.1), fun q u hu => (turn_cell k (by omega) (by simp; omega)).trans (h.sc q u hu), h.sl, h.hr, h.hB⟩
theorem JoS.next {z : Nat} {w W W' : World} {rb tb lb : Nat} {c : Int} {L : List Tk} {o : Nat} {Q : Nat → Prop} {x : Tm} {ux : Value} {sb : Nat} {sg : Sg} (h : JoS z w W rb tb lb c L o Q x ux sb sg) (k : Below W.heap.size W W') : JoS z w W' rb tb lb c L o Q x ux sb sg := h.turn (Turn.of_below k) (h.re.next k)
theorem sgT_drop {sg : Sg} {t : Tk} {i : Nat} (hi : i < sg.length) : sgT (sg.drop i) t = if isT sg[i].1 t = true then some sg[i].2 else sgT (sg.drop (i + 1)) t := by
  rw [List.drop_eq_getElem_cons hi]
  unfold sgT
  rw [List.find?_cons]
  cases isT sg[i].1 t <;> rfl
theorem joinP_of {c : Int} {sg : Sg} {S : Ps} {x : Tm} {L : List Tk} {t : Tk} (hx : nxt c L = .ok t) {k : Int} (h : sgT sg t = some k) : joinP c sg S x L = bnd (S L.tail) fun y => .ok ((tm k t.at_ [x, y.1], true), y.2) := by
  unfold joinP
  rw [hx, bnd_ok]
  simp only [h]
theorem joinP_no {c : Int} {sg : Sg} {S : Ps} {x : Tm} {L : List Tk} {t : Tk} (hx : nxt c L = .ok t) (h : sgT sg t = none) : joinP c sg S x L = .ok ((x, false), L) := by
  unfold joinP
  rw [hx, bnd_ok]
  simp only [h]
set_option maxHeartbeats 4000000 in
set_option maxRecDepth 20000 in
theorem joined_c {z rb tb lb : Nat} {c : Int} {L : List Tk} {o : Nat} (hz : z ≤ 9223372036854775807) {S : Ps} {lv : Int} (hlv : 0 ≤ lv ∧ lv ≤ 5) (HS : LvC z rb tb lb c o 37 (lv + 1) S) (sg : Sg) (hsg : sg ≠ []) (h5 : sg.length ≤ 5) (hsk : ∀ s, s ∈ sg → 0 ≤ s.2 ∧ s.2 ≤ 100) (sb : Nat) (Q : Nat → Prop) (x : Tm) (ux : Value) (w : World) (hr : Rea z w rb tb lb c L o)
    (hs : SitQ Q z w x ux) (hB : ¬ Q rb) (hQn : ∀ b, w.heap.size ≤ b → Q b) (hsc : ∀ q u, (sgC sg)[q]? = some u → w.cell? ⟨sb, q, none⟩ = some u) (hsb : sb < w.heap.size ∧ sb ≠ rb) :
    Calls Tryz.prog 98 #[.pointer (some ⟨rb, 0, none⟩), tmV x ux, .int .i64 lv, .slice (some ⟨sb, 0, none⟩) sg.length sg.length] w (Out (VJo Q z) z w rb tb lb c o (joinP c sg S x L)) := by
  obtain ⟨pr, hpr⟩ : ∃ pr, Hid (pr = joinP c sg S x L) := ⟨_, rfl⟩
  rw [← hpr.out]
  have hE : Hid (∀ f w', pr = .error f → Turn [rb] w w' → Out (VJo Q z) z w rb tb lb c o pr (.panicked [fltE f]) w') := fun f w' h ht => Out.mk_err h ht
  have hO : Hid (∀ t b L' w' v u, pr = .ok ((t, b), L') → Turn [rb] w w' → v = .tuple #[tmV t u, .bool b] → SitQ Q z w' t u → Rea z w' rb tb lb c L' o → Out (VJo Q z) z w rb tb lb c o pr (.returned v) w') := fun t b L' w' v u h ht hv hs hr' => Out.mk_ok h ht ⟨u, hv, hs⟩ hr'
  generalize Out (VJo Q z) z w rb tb lb c o pr = Post at *
  have hL := hr.lts
  obtain ⟨hlv0, hlv1⟩ := hlv
  have HSw : Hid (LvC z rb tb lb c o 37 (IntKind.i64.wrap (lv + 1)) S) := by
    have hw1 : IntKind.i64.wrap (lv + 1) = lv + 1 := by rw [IntKind.wrap_i64]; omega
    rw [hw1]
    exact HS
  clear HS
  have hlen : 0 < sg.length := List.length_pos_iff.2 hsg
  obtain ⟨av, cv, rfl, -, -⟩ := hs.parts.shape
  have J0 : Hid (JoS z w ((w.alloc (.cells (tmL x (.slice av x.parts.length cv)).toArray 33)).alloc (.cells (zs6).toArray 33)) rb tb lb c L o Q x (.slice av x.parts.length cv) sb sg) := by
    obtain ⟨X0, X1, XB⟩ := two_boxes w 33 33 (tmL x (.slice av x.parts.length cv)) zs6
    exact ⟨X0, X1, hr.next XB, Turn.of_below XB, (hs.weak (fun b hb hq => ⟨hq, hb⟩)).turnQ (S := [rb]) (Turn.of_below XB) (by simp only [List.mem_singleton]; rintro i rfl hh; exact hB hh.1), fun q u hu => (XB.cell (p := ⟨sb, q, none⟩) hsb.1).trans (hsc q u hu), hsb, hL, hB⟩
  obtain ⟨nn, hnn⟩ : ∃ nn, nn = x.parts.length := ⟨_, rfl⟩
  rw [← hnn] at J0 ⊢
  clear hr hs hsc hnn
  obtain ⟨N, hN⟩ : ∃ N, Hid (N = sg.length) := ⟨_, rfl⟩
  have hNp : 0 < N := by rw [hN.out]; exact hlen
  have hN5 : N ≤ 5 := by rw [hN.out]; exact h5
  rw [← hN.out]
  simp only [tmV]
  go_enter Tryz.func98, Tryz.ntmps98
  go_wp2_with fail
  generalize hW : (w.alloc _).alloc _ = W0 at *
  clear hW
  go_loopw [14] (fun p wr => ∃ i : Nat, p = .int .i64 i ∧ i ≤ N ∧ Hid (∀ t, nxt c L = .ok t → sgT (sg.drop i) t = sgT sg t) ∧ Hid ((∃ f, nxt c L = .error f) → i = 0) ∧ Hid (JoS z w wr rb tb lb c L o Q x (.slice av nn cv) sb sg)) (fun p _ => N - (RowKit.intOf p).toNat)
  · exact ⟨0, rfl, Nat.zero_le _, fun t _ => rfl, fun _ => rfl, J0⟩
  obtain ⟨i, rfl, hi, HD, H0, HJ⟩ := hrel
  clear J0
  by_cases hlt : i < N
  · have hlt' : (i : Int) < (N : Int) := by omega
    have hi2 : i < sg.length := by rw [← hN.out]; exact hlt
    have c0 := HJ.out.sc (i * 2) _ ((sgC_get sg i 0 (by omega) hi2).trans rfl)
    have c1 := HJ.out.sc (i * 2 + 1) _ ((sgC_get sg i 1 (by omega) hi2).trans rfl)
    have sbl : sb < wr.heap.size := Nat.lt_of_lt_of_le HJ.out.sl.1 HJ.out.tn.size
    have hks := hsk sg[i] (List.getElem_mem hi2)
    have hsd := fun t => sgT_drop (t := t) hi2
    generalize sg[i] = s at *
    have J1 := hid2 (HJ.out.next ((Below.refl _ wr).alloc (Nat.le_refl _) (.cells (([.string s.1, .int .i64 s.2] : List Value)).toArray 129)))
    have SB := hid2 (Box.new wr [.string s.1, .int .i64 s.2] 129)
    go_wp2_with fail
    generalize hW1 : wr.alloc _ = W1 at *
    clear hW1
    have SBx := SB.out
    obtain ⟨x0, x1, y0, y1⟩ := SBx.two
    have sl := SBx.lt
    go_wp2_with fail
    rcases hx : nxt c L with f | t
    · refine Calls.mono (is_err hx s.1 _ J1.out.re) ?_
      rintro e w2 ⟨rfl, b2⟩
      go_wp2_with fail
      exact ⟨rfl, hE.out _ _ (by rw [hpr.out]; unfold joinP; rw [hx]; rfl) (J1.out.tn.andBelow b2)⟩
    refine Calls.mono (is_ok hx s.1 _ J1.out.re) ?_
    rintro e w2 ⟨rfl, b2⟩
    have J2 := hid2 (J1.out.next b2)
    have S2 := hid2 (SB.out.next b2)
    have z2 := b2.size
    clear b2 J1 SB SBx x0 x1 y0 y1 c0 c1
    have hsd2 := hsd t
    rw [HD.out t hx] at hsd2
    cases hm : isT s.1 t with
    | false =>
      rw [hm] at hsd2
      simp only [Bool.false_eq_true, if_false] at hsd2
      go_wp2_with fail
      go_roundw
      · exact ⟨i + 1, by simp, hlt, fun t' ht' => by rw [hx] at ht'; cases ht'; exact hsd2.symm, (fun ⟨f, hf⟩ => by rw [hx] at hf; cases hf), J2⟩
      · simp [RowKit.intOf]; omega
    | true =>
      rw [hm] at hsd2
      simp only [if_true] at hsd2
      have hp2 : Hid (pr = bnd (S L.tail) fun y => .ok ((tm s.2 t.at_ [x, y.1], true), y.2)) := by show _ = _; rw [hpr.out]; exact joinP_of hx hsd2
      have hm1 := mustS_of hx hm
      obtain ⟨f0, f1, f2, f3, f4, f5, _⟩ := J2.out.fb.six
      obtain ⟨s0, s1, _⟩ := S2.out.two
      have sl2 := S2.out.lt
      have fl2 := J2.out.fb.lt
      have hsB : wr.heap.size ∉ [rb] := by have := J2.out.hr; have := J2.out.fb.lt; have := HJ.out.tn.size; simp; omega
      have hwr := HJ.out.rs.lt
      have HM1 := hid2 hm1
      have Hok : Hid (TkOk z t) := by have := J2.out.re.tl.ok; rw [← nxt_inv hx] at this; exact this
      have HK := hid2 hks
      have HH := hid2 hsk
      clear hsd hsd2 hx hm hm1 hks HD H0 HJ hsk hsg h5 hlen
      go_wp2_with fail
      go_region_held2 (fun w' => w'.cell? ⟨wr.heap.size, 0, none⟩ = some (.string s.1) ∧ w'.cell? ⟨wr.heap.size, 1, none⟩ = some (.int .i64 s.2) ∧ w'.cell? ⟨w.heap.size, 0, none⟩ = some (.int .i64 x.kind) ∧ w'.cell? ⟨w.heap.size, 1, none⟩ = some (.string x.text) ∧ w'.cell? ⟨w.heap.size, 2, none⟩ = some (.int .i64 x.n) ∧ w'.cell? ⟨w.heap.size, 3, none⟩ = some (.int .i64 x.m) ∧ w'.cell? ⟨w.heap.size, 4, none⟩ = some (.int .i64 x.pl) ∧ w'.cell? ⟨w.heap.size, 5, none⟩ = some (.slice av nn cv)) (simp [go_sem, *]) (first
        | (go_at_call 27; refine Calls.mono (must_c s.1 _ (J2.out.re.next (Below.refl _ _).drew)) ?_; intro e w3 h3; obtain ⟨t3, _, rfl, rfl, r3⟩ := Out.of_ok HM1.out h3; have t3' := tn (Turn.of_below (Below.refl _ _).drew) t3; have J3 := hid2 (J2.out.turn t3' r3); have S3 := hid2 (S2.out.turn t3' hsB); obtain ⟨g0, g1, g2, g3, g4, g5, _⟩ := J3.out.fb.six; obtain ⟨m0, m1, _⟩ := S3.out.two; have sl3 := S3.out.lt; clear h3 t3 r3 t3')
        | (go_at_call 37; refine Calls.mono (HSw.out _ _ J3.out.re) ?_; intro e w4 h4; rcases hy : S L.tail with f | y; (obtain ⟨rfl, t4⟩ := Out.of_err hy h4; exact ⟨rfl, hE.out _ _ (by rw [hp2.out, hy]; rfl) (tn J3.out.tn t4)⟩); (obtain ⟨t4, _, rfl, ⟨u4, rfl, S4⟩, r4⟩ := Out.of_ok hy h4; have J4 := hid2 (J3.out.turn t4 r4); have SS4 := hid2 (S3.out.turn t4 hsB); obtain ⟨g0', g1', g2', g3', g4', g5', _⟩ := J4.out.fb.six; obtain ⟨m0', m1', _⟩ := SS4.out.two; have sl4 := SS4.out.lt; have fl4 := J4.out.fb.lt; obtain ⟨ay, cy, rfl, -, -⟩ := S4.parts.shape; have Y4 := hid2 S4; have z34 := t4.size; clear h4 t4 r4 S4))
        | (go_at_call 76; refine Calls.mono (term_c _ _ _ _ _ _) ?_; rintro e w6 ⟨rfl, b6⟩; have b46 := hid2 b6; have J6 := hid2 ((J4.out.next ((Below.refl _ _).alloc (Nat.le_refl _) _)).next b6); have S6 := hid2 ((SS4.out.next ((Below.refl _ _).alloc (Nat.le_refl _) _)).next b6); obtain ⟨h0, h1, h2, h3, h4, h5', _⟩ := J6.out.fb.six; obtain ⟨i0, i1, _⟩ := S6.out.two; obtain ⟨p0, p1, p2, p3, p4, p5, q0, q1, q2, q3, q4, q5⟩ := J6.out.rs.six; have pl := J6.out.rs.lt; have sl6 := S6.out.lt; have zz6 := b6.size; clear b6))
      all_goals go_wp2_with fail
      have AB := (Box.new w4 (tmL x (.slice av nn cv) ++ tmL y.1 (.slice ay y.1.parts.length cy)) 33).next b46.out
      have YT := SitB.turn (S := []) (SitB.turn (S := []) Y4.out (Turn.of_below ((Below.refl _ w4).alloc (Nat.le_refl _) (.cells (tmL x (.slice av nn cv) ++ tmL y.1 (.slice ay y.1.parts.length cy)).toArray 33))) (by simp)) (Turn.of_below b46.out) (by simp)
      have h34 := J3.out.rs.lt
      have hne4 : w4.heap.size ∉ [w.heap.size + 1] := by simp; omega
      refine bodyPost_ret (v := .tuple #[tmV (tm s.2 t.at_ [x, y.1]) (.slice (some ⟨w4.heap.size, 0, none⟩) 2 2), .bool true]) (by simp [results, Tryz.results98, go_sem, *]) rfl (hO.out (tm s.2 t.at_ [x, y.1]) true y.2 _ _ (.slice (some ⟨w4.heap.size, 0, none⟩) 2 2) (by rw [hp2.out, hy]; rfl) ?_ rfl ?_ ?_)
      · exact J6.out.tn.trans (turn_six _ _ _ _ _ _ _ _) (fun i hi => .inr (by simp at hi; omega))
      · refine sitq_two (x := x) (y := y.1) (u := .slice av nn cv) (v := .slice ay y.1.parts.length cy) (fit_of _ _ _ _ _ _ hz HK.out.1 HK.out.2 (Nat.zero_le _) zero64 zero64 Hok.out.a) rfl (by have := AB.lt; simpa using this) (hQn _ (by omega)) ?_ ?_ ?_ ?_
        · exact (box_two (AB.turn (turn_six _ _ _ _ _ _ _ _) hne4)).1
        · exact (box_two (AB.turn (turn_six _ _ _ _ _ _ _ _) hne4)).2
        · exact (J6.out.st.turnQ (turn_six _ _ _ _ _ _ _ _) (by simp)).weak (fun b _ hq => hq.1)
        · exact SitQ.weak (SitB.turn YT (turn_six _ _ _ _ _ _ _ _) (by simp; omega)) (fun b _ hq => hQn b (by omega))
      · exact J6.out.re.turn1 (turn_six _ _ _ _ _ _ _ _) (by omega)
  · have hiN : i = N := by omega
    subst hiN
    rcases hx : nxt c L with f | t
    · exact absurd (H0.out ⟨f, hx⟩) (by omega)
    have hno : sgT sg t = none := by
      have := HD.out t hx
      rw [← this, hN.out, List.drop_length]
      rfl
    obtain ⟨f0, f1, f2, f3, f4, f5, _⟩ := HJ.out.fb.six
    obtain ⟨p0, p1, p2, p3, p4, p5, q0, q1, q2, q3, q4, q5⟩ := HJ.out.rs.six
    have fl := HJ.out.fb.lt
    have pl := HJ.out.rs.lt
    have J := HJ
    clear HJ HD H0
    go_wp2_with fail
    refine bodyPost_ret (v := .tuple #[tmV x (.slice av nn cv), .bool false]) (by simp [results, Tryz.results98, go_sem, *]) rfl (hO.out x false L _ _ (.slice av nn cv) (by rw [hpr.out]; exact joinP_no hx hno) ?_ rfl ?_ ?_)
    · exact J.out.tn.trans (turn_six _ _ _ _ _ _ _ _) (fun i hi => .inr (by simp at hi; omega))
    · exact (J.out.st.turnQ (turn_six _ _ _ _ _ _ _ _) (by simp)).weak (fun b _ hq => hq.1)
    · exact J.out.re.turn1 (turn_six _ _ _ _ _ _ _ _) (by omega)
end Go.Proofs.YtecdfnpbcabdnaaGreatDoor

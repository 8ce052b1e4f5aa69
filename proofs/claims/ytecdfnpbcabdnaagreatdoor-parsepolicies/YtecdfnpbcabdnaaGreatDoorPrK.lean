/- The document's reader in memory: inside, of calls with parts. -/
import Derived.Test.YtecdfnpbcabdnaaGreatDoorPrJ
import Derived.Test.YtecdfnpbcabdnaaGreatDoorPxD
namespace Go.Proofs.YtecdfnpbcabdnaaGreatDoor
open Go.RowKit Go.Lib

/-- The parts of a call, one by one. -/
def argsR (c : Int) (E : Rdf) : Nat → Nat → List Tm → Sr → List Tm × Sr
  | 0, _, ps, S => (ps, S)
  | r + 1, j, ps, S => if (if j = 0 then S else mustR c k_com S).good = true then argsR c E r (j + 1) (ps ++ [(E (if j = 0 then S else mustR c k_com S)).1]) (E (if j = 0 then S else mustR c k_com S)).2 else argsR c E r (j + 1) ps (if j = 0 then S else mustR c k_com S)
theorem args_parts (c : Int) (E : Rdf) : ∀ (r j : Nat) (ps : List Tm) (S : Sr), 1 ≤ j → argsR c E r j ps S = partsR c E r ps S
  | 0, _, _, _, _ => rfl
  | r + 1, j, ps, S, hj => by
    rw [argsR, partsR, if_neg (by omega : ¬ j = 0)]
    split
    · exact args_parts c E r (j + 1) _ _ (by omega)
    · exact args_parts c E r (j + 1) _ _ (by omega)
theorem args_bad (c : Int) (E : Rdf) : ∀ (r j : Nat) (ps : List Tm) (S : Sr), S.good = false → argsR c E r j ps S = (ps, S)
  | 0, _, _, _, _ => rfl
  | r + 1, j, ps, S, hb => by
    have h1 : (if j = 0 then S else mustR c k_com S) = S := by
      split
      · rfl
      · exact must_bad hb
    rw [argsR, h1, if_neg (by rw [hb]; simp)]
    exact args_bad c E r (j + 1) ps S hb
def finR (c k : Int) (a : Nat) (y : List Tm × Sr) : Tm × Sr := (tm k a y.1, mustR c k_rp y.2)
theorem call_args {z rb tb : Nat} {LL : List Tk} {c : Int} {o o1 : Nat} {X : Option Rdf} {S : Sr} (k : Int) (n a : Nat) (h : Opn z rb tb LL c o X o1 (openR c k_lp X.isNone S)) :
    ∃ E, callR c X k n a S = finR c k a (argsR c E (n + 1) 0 [] (openR c k_lp X.isNone S)) ∧ ((o1 = o + 1 ∧ RdC z rb tb LL c o1 22 E) ∨ (openR c k_lp X.isNone S).good = false) := by
  rcases h with ⟨rfl, E, rfl, HE⟩ | ⟨rfl, rfl, rfl, hb⟩
  · refine ⟨E, ?_, .inl ⟨rfl, HE⟩⟩
    unfold callR finR
    simp only [Option.isNone_some]
    cases hg : (openR c k_lp false S).good with
    | true =>
      rw [if_pos rfl, argsR, if_pos rfl, if_pos hg, args_parts c E n _ _ _ (by omega)]
      rfl
    | false =>
      rw [if_neg (by simp), args_bad c E _ _ _ _ hg, must_bad hg]
  · refine ⟨numberR c, ?_, .inr hb⟩
    unfold callR finR
    rw [args_bad c _ _ _ _ _ hb, must_bad hb]
    rfl
theorem step_qt {ops : Array Oper} {op : Oper} {a : Act} {w : World} {K : Act → World → Prop} {Q : Exit → Act → World → Prop} {Ee : Prop} {B z rb tb : Nat} {LL : List Tk} {c : Int} {o : Nat} {y : Tm × Sr} (hgd : op.guard = none) {f : FuncId} {args : Array Value}
    (C : Calls Tryz.prog f args w (QtP B z w rb tb LL c o y)) (he : (execOp a.eval op).run Tryz.prog w = .ok (.enter f args) w)
    (hK : ∀ v w', Turn [rb] w w' → VTm B z y.1 v w' → Rr z w' rb tb LL c y.2 o → K (a.put op.dst v) w') :
    if Region.wanted op (yielded ops a.tmps) = true then Oper.wp Tryz.prog op a w K Q else Ee := by
  have hwd : Region.wanted op (yielded ops a.tmps) = true := by simp [Region.wanted, hgd]
  rw [if_pos hwd]
  unfold Oper.wp
  rw [he, Oper.upon_enter]
  refine C.mono fun e w' h => ?_
  obtain ⟨ht, ⟨v, rfl, hv⟩, hr'⟩ := h
  exact hK v w' ht hv hr'
theorem RrX.later {z : Nat} {w w' : World} {rb tb : Nat} {LL : List Tk} {c : Int} {S : Sr} {o off cap i B : Nat} {ov : Int} (h : RrX z w rb tb LL c S o off cap i ov) (k : Below B w w') (h1 : rb < B ∧ tb < B) : RrX z w' rb tb LL c S o off cap i ov :=
  ⟨h.box.later k h1.1, h.le, h.mx, fun q u hu => (k.cell (p := ⟨tb, off + q, none⟩) h1.2).trans (h.toks q u hu), h.nt, Nat.lt_of_lt_of_le h.lt k.size, h.il, h.dr, h.tl, h.er, h.op, h.oi, h.dp, h.ci⟩
theorem Rr.later {z : Nat} {w w' : World} {rb tb : Nat} {LL : List Tk} {c : Int} {S : Sr} {o B : Nat} (h : Rr z w rb tb LL c S o) (k : Below B w w') (h1 : rb < B ∧ tb < B) : Rr z w' rb tb LL c S o := by
  obtain ⟨off, cap, i, ov, h⟩ := h
  exact ⟨off, cap, i, ov, h.later k h1⟩
theorem Rr.errc {z : Nat} {w : World} {rb tb : Nat} {LL : List Tk} {c : Int} {S : Sr} {o : Nat} (h : Rr z w rb tb LL c S o) : ∃ er : Int, w.cell? ⟨rb, 4, none⟩ = some (.int .i64 er) ∧ rb < w.heap.size ∧ S.good = decide (er = 0) := by
  have hg := h.good
  obtain ⟨off, cap, i, ov, h⟩ := h
  exact ⟨_, h.box.cell 4 _ rfl, h.box.lt, hg⟩
theorem Opn.good {z rb tb : Nat} {LL : List Tk} {c : Int} {o o1 : Nat} {X : Option Rdf} {S : Sr} (h : Opn z rb tb LL c o X o1 S) (hg : S.good = true) (S' : Sr) : Opn z rb tb LL c o X o1 S' := by
  rcases h with h | ⟨_, _, _, h4⟩
  · exact .inl h
  · rw [hg] at h4
    cases h4
/-- inside of a call, its parts under way. -/
structure IpS (z : Nat) (w W : World) (rb tb : Nat) (LL : List Tk) (c : Int) (o : Nat) (q : Cl) (a : Nat) (S : Sr) (v : Value) (ts : List (Tm × Value)) : Prop where
  i : InS z w W rb tb LL c o q S [.int .i64 q.2.1, .string ⟨#[]⟩, .int .i64 0, .int .i64 0, .int .i64 (a : Nat), v]
  pa : PaO (w.heap.size + 1 + 1 + 1) z W v ts
theorem IpS.turn {z : Nat} {w W W' : World} {rb tb : Nat} {LL : List Tk} {c : Int} {o o' : Nat} {q : Cl} {a : Nat} {S S' : Sr} {v : Value} {ts : List (Tm × Value)} (h : IpS z w W rb tb LL c o q a S v ts) (k : Turn [rb] W W') (r : Rr z W' rb tb LL c S' o') : IpS z w W' rb tb LL c o' q a S' v ts := by
  have hl := h.i.rl
  exact ⟨h.i.turn k r, h.pa.turn k (by simp; omega)⟩
theorem IpS.next {z : Nat} {w W W' : World} {rb tb : Nat} {LL : List Tk} {c : Int} {o : Nat} {q : Cl} {a : Nat} {S : Sr} {v : Value} {ts : List (Tm × Value)} (h : IpS z w W rb tb LL c o q a S v ts) (k : Below W.heap.size W W') : IpS z w W' rb tb LL c o q a S v ts := h.turn (Turn.of_below k) (h.i.re.next k)
theorem IpS.added {z : Nat} {w W W' : World} {rb tb : Nat} {LL : List Tk} {c : Int} {o : Nat} {q : Cl} {a : Nat} {S : Sr} {v v' : Value} {ts us : List (Tm × Value)} (h : IpS z w W rb tb LL c o q a S v ts) (p : PaO (w.heap.size + 1 + 1 + 1) z W' v' us) (k : Below (w.heap.size + 1 + 1 + 1) W W') : IpS z w (W'.setCell ⟨w.heap.size + 1 + 1, 5, none⟩ v') rb tb LL c o q a S v' us := by
  have hl := h.i.rl
  have kk := turn_set W' (w.heap.size + 1 + 1) 5 v'
  exact ⟨⟨(h.i.re.later k (by omega)).turn kk (by simp; omega) (by simp; omega), (turn_later h.i.tn k (by omega)).andSet _ _ (.inr (by simp; omega)), (h.i.ca.later k (by omega)).turn kk (by simp; omega), (h.i.rs.later k (by omega)).turn kk (by simp), (h.i.gx.later k (by omega)).set 5 (by simp) v', hl⟩, p.turn kk (by simp)⟩
set_option maxHeartbeats 16000000 in
set_option maxRecDepth 20000 in
theorem qInCall_c {z rb tb : Nat} {LL : List Tk} {c : Int} {o : Nat} (hz : z ≤ 9223372036854775807) {X : Option Rdf} (HX : InQ z rb tb LL c o X) (q : Cl) (n : Nat) (hn : q.2.2 = (n : Int) + 1) (hn2 : n ≤ 2) (hk : q.2.1 ≠ 12) (hk1 : 0 ≤ q.2.1 ∧ q.2.1 ≤ 100) (a : Nat) (ha : a ≤ z) (S : Sr) (w : World) (hr : Rr z w rb tb LL c S o) :
    Calls Tryz.prog 165 #[.pointer (some ⟨rb, 0, none⟩), .agg #[.string q.1, .int .i64 q.2.1, .int .i64 q.2.2], .int .i64 (a : Nat)] w (QtP w.heap.size z w rb tb LL c o (callR c X q.2.1 n a S)) := by
  have HX0 := hid2 HX
  have hz0 := hid2 hz
  have ha0 := hid2 ha
  obtain ⟨R, hR⟩ : ∃ R, Hid (R = callR c X q.2.1 n a S) := ⟨_, rfl⟩
  rw [← hR.out]
  have hP : Hid (∀ w' t u S', Turn [rb] w w' ∧ Rr z w' rb tb LL c S' o ∧ SitB w.heap.size z w' t u → R = (t, S') → QtP w.heap.size z w rb tb LL c o R (.returned (tmV t u)) w') := fun w' t u S' h h3 => ⟨h.1, ⟨_, rfl, u, by rw [h3], by rw [h3]; exact h.2.2⟩, by rw [h3]; exact h.2.1⟩
  generalize QtP w.heap.size z w rb tb LL c o R = Post at *
  have HC0 := hid2 (InS.made hr q a)
  clear HX hz ha hr
  obtain ⟨xq, kq, nq⟩ := q
  simp only at *
  subst hn
  have kk : (kq == 12) = false := by simpa using hk
  go_enter Tryz.func165, Tryz.ntmps165
  go_wp2_with fail
  refine Calls.mono (open_any HX0.out _ HC0.out.re) ?_
  rintro e w1 ⟨o1, ⟨rfl, t1, r1⟩, HO⟩
  have HC1 := hid2 (HC0.out.turn t1 r1)
  have HO1 := hid2 HO
  clear HC0 t1 r1 HO HX0
  obtain ⟨c0, c1, c2⟩ := HC1.out.ca.trio
  have cl := HC1.out.ca.lt
  obtain ⟨g0, g1, g2, g3, g4, g5, h0, h1, h2, h3, h4, h5⟩ := HC1.out.gx.six
  have gl := HC1.out.gx.lt
  go_wp2_with fail
  obtain ⟨E, hE1, hE2⟩ := call_args kq n a HO1.out
  have hR1 : Hid (R = finR c kq a (argsR c E (n + 1) 0 [] (openR c k_lp X.isNone S))) := hR.out.trans hE1
  have HE0 : Hid ((o1 = o + 1 ∧ RdC z rb tb LL c o1 22 E) ∨ (openR c k_lp X.isNone S).good = false) := hE2
  have HP1 : Hid (IpS z w w1 rb tb LL c o1 (xq, kq, (n : Int) + 1) a (openR c k_lp X.isNone S) (.slice none 0 0) []) := ⟨HC1.out, PaO.nil _ _ _⟩
  clear hR hE1 hE2 HC1 c0 c1 c2 cl g0 g1 g2 g3 g4 g5 h0 h1 h2 h3 h4 h5 gl
  generalize openR c k_lp X.isNone S = S1 at *
  go_loopw [8] (fun p wr => ∃ (j : Nat) (S2 : Sr) (v : Value) (ts : List (Tm × Value)), p = .int .i64 j ∧ j ≤ n + 1 ∧ ts.length ≤ j ∧ Hid (IpS z w wr rb tb LL c o1 (xq, kq, (n : Int) + 1) a S2 v ts) ∧ Hid (Opn z rb tb LL c o X o1 S2) ∧ Hid ((o1 = o + 1 ∧ RdC z rb tb LL c o1 22 E) ∨ S2.good = false) ∧ Hid (R = finR c kq a (argsR c E (n + 1 - j) j (ts.map Prod.fst) S2))) (fun p _ => n + 1 - (RowKit.intOf p).toNat)
  · exact ⟨0, _, _, [], rfl, Nat.zero_le _, Nat.le_refl _, HP1, HO1, HE0, hR1⟩
  obtain ⟨j, S2, v, ts, rfl, hj, hts, HP, HO, HEx, HR⟩ := hrel
  clear HP1 HO1 HE0 hR1
  obtain ⟨c0, c1, c2⟩ := HP.out.i.ca.trio
  have cl := HP.out.i.ca.lt
  by_cases hlt : j < n + 1
  · have hlt' : (j : Int) < (n : Int) + 1 := by omega
    have HR2 : Hid (R = finR c kq a (argsR c E (n + 1 - (j + 1) + 1) j (ts.map Prod.fst) S2)) := by
      show _ = _
      rw [HR.out, show n + 1 - (j + 1) + 1 = n + 1 - j by omega]
    clear HR
    rw [argsR] at HR2
    by_cases hj0 : j = 0
    · subst hj0
      rw [if_pos rfl] at HR2
      obtain ⟨er, e4, el, eg⟩ := HP.out.i.re.errc
      by_cases er0 : er = 0
      · have hg : S2.good = true := by rw [eg]; exact decide_eq_true er0
        rw [if_pos hg] at HR2
        obtain ⟨ho1, HE1⟩ : o1 = o + 1 ∧ RdC z rb tb LL c o1 22 E := by
          rcases HEx.out with h | h
          · exact h
          · rw [hg] at h; cases h
        have g5 := HP.out.i.gx.cell 5 _ rfl
        have gl := HP.out.i.gx.lt
        go_wp2_with fail
        go_region_law (first
          | (refine step_qt rfl (HE1 S2 _ (HP.out.i.re.next (Below.refl _ _).drew)) (by first | rfl | go_simp) ?_; rintro _ w60 t60 ⟨u60, rfl, S60⟩ r60; have z60 : Hid (wr.heap.size ≤ w60.heap.size) := t60.size; have C60 := hid2 ((HP.out.next (Below.refl _ _).drew).turn t60 r60); have q60 := hid2 (HP.out.next (Below.refl _ wr).drew).pa.blk; have c560 := C60.out.i.gx.cell 5 _ rfl; have l560 := C60.out.i.gx.lt; have X60 := hid2 S60; clear S60 t60 r60)
          | (refine step_append_tm w60 (w.heap.size + 1 + 1 + 1) rfl (.tmp 31) (.tmp 34) rfl v ts [((E S2).1, u60)] rfl (by simp [Act.eval]) C60.out.pa (fun p hp => by obtain rfl := List.mem_singleton.1 hp; exact sit_apart X60.out (by have := HP.out.i.gx.lt; simp <;> omega) (fun g' hg' => (q60.out g' hg').2)) (by simp <;> omega) (by have := HP.out.i.gx.lt; have := z60.out; omega) (by simp [Act.eval]) ?_; intro a60 d60 wa60 p60 b60; have CA60 := hid2 (C60.out.added p60 b60); have l60 := (C60.out.i.gx.later b60 (by omega)).lt; have e560 := (C60.out.i.gx.later b60 (by omega)).cell 5 _ rfl; have f560 := (C60.out.i.gx.later b60 (by omega)).free 5 (by simp); clear p60 b60))
        all_goals go_wp2_with fail
        all_goals go_roundw
        all_goals first
          | (refine ⟨0 + 1, (E S2).2, _, _, by simp, by omega, by rw [List.length_append]; simp only [List.length_singleton]; omega, CA60, Opn.good HO.out hg _, .inl ⟨ho1, HE1⟩, ?_⟩
             show _ = _
             rw [List.map_append]
             exact HR2.out)
          | (simp [RowKit.intOf]; done)
          | (simp [RowKit.intOf]; omega)
      · have hg : S2.good = false := by rw [eg]; exact decide_eq_false er0
        rw [if_neg (by rw [hg]; simp)] at HR2
        have k0 : (er == 0) = false := by simpa using er0
        go_wp2_with fail
        go_roundw
        · exact ⟨0 + 1, S2, v, ts, by simp, by omega, by omega, HP, HO, HEx, HR2⟩
        · first | (simp [RowKit.intOf]; done) | (simp [RowKit.intOf]; omega)
    · have hj1 : (0 : Int) < (j : Int) := by omega
      rw [if_neg hj0] at HR2
      go_wp2_with fail
      refine Calls.mono (qMust_c k_com ⟨ba_neL [40] (by decide), ba_neL [123] (by decide), ba_neL [41] (by decide), ba_neL [125] (by decide)⟩ _ HP.out.i.re) ?_
      rintro e w2 ⟨rfl, ta, ra⟩
      have HP3 := hid2 (HP.out.turn ta ra)
      have HO3 := hid2 (HO.out.to (S' := mustR c k_com S2) (fun h => by rw [must_bad h]; exact h))
      have HEx3 : Hid ((o1 = o + 1 ∧ RdC z rb tb LL c o1 22 E) ∨ (mustR c k_com S2).good = false) := HEx.out.imp id (fun h => by rw [must_bad h]; exact h)
      clear ta ra HP HO HEx c0 c1 c2 cl
      generalize mustR c k_com S2 = S3 at *
      obtain ⟨er, e4, el, eg⟩ := HP3.out.i.re.errc
      by_cases er0 : er = 0
      · have hg : S3.good = true := by rw [eg]; exact decide_eq_true er0
        rw [if_pos hg] at HR2
        obtain ⟨ho1, HE1⟩ : o1 = o + 1 ∧ RdC z rb tb LL c o1 22 E := by
          rcases HEx3.out with h | h
          · exact h
          · rw [hg] at h; cases h
        have g5 := HP3.out.i.gx.cell 5 _ rfl
        have gl := HP3.out.i.gx.lt
        go_wp2_with fail
        go_region_law (first
          | (refine step_qt rfl (HE1 S3 _ (HP3.out.i.re.next (Below.refl _ _).drew)) (by first | rfl | go_simp) ?_; rintro _ w60 t60 ⟨u60, rfl, S60⟩ r60; have z60 : Hid (w2.heap.size ≤ w60.heap.size) := t60.size; have C60 := hid2 ((HP3.out.next (Below.refl _ _).drew).turn t60 r60); have q60 := hid2 (HP3.out.next (Below.refl _ w2).drew).pa.blk; have c560 := C60.out.i.gx.cell 5 _ rfl; have l560 := C60.out.i.gx.lt; have X60 := hid2 S60; clear S60 t60 r60)
          | (refine step_append_tm w60 (w.heap.size + 1 + 1 + 1) rfl (.tmp 31) (.tmp 34) rfl v ts [((E S3).1, u60)] rfl (by simp [Act.eval]) C60.out.pa (fun p hp => by obtain rfl := List.mem_singleton.1 hp; exact sit_apart X60.out (by have := HP3.out.i.gx.lt; simp <;> omega) (fun g' hg' => (q60.out g' hg').2)) (by simp <;> omega) (by have := HP3.out.i.gx.lt; have := z60.out; omega) (by simp [Act.eval]) ?_; intro a60 d60 wa60 p60 b60; have CA60 := hid2 (C60.out.added p60 b60); have l60 := (C60.out.i.gx.later b60 (by omega)).lt; have e560 := (C60.out.i.gx.later b60 (by omega)).cell 5 _ rfl; have f560 := (C60.out.i.gx.later b60 (by omega)).free 5 (by simp); clear p60 b60))
        all_goals go_wp2_with fail
        all_goals go_roundw
        all_goals first
          | (refine ⟨j + 1, (E S3).2, _, _, by simp, by omega, by rw [List.length_append]; simp only [List.length_singleton]; omega, CA60, Opn.good HO3.out hg _, .inl ⟨ho1, HE1⟩, ?_⟩
             show _ = _
             rw [List.map_append]
             exact HR2.out)
          | (simp [RowKit.intOf]; done)
          | (simp [RowKit.intOf]; omega)
      · have hg : S3.good = false := by rw [eg]; exact decide_eq_false er0
        rw [if_neg (by rw [hg]; simp)] at HR2
        have k0 : (er == 0) = false := by simpa using er0
        go_wp2_with fail
        go_roundw
        · exact ⟨j + 1, S3, v, ts, by simp, by omega, by omega, HP3, HO3, HEx3, HR2⟩
        · first | (simp [RowKit.intOf]; done) | (simp [RowKit.intOf]; omega)
  · have hjn : j = n + 1 := by omega
    subst hjn
    have HR2 : Hid (R = (tm kq a (ts.map Prod.fst), mustR c k_rp S2)) := by
      show _ = _
      rw [HR.out, Nat.sub_self]
      rfl
    have nn0 : ((n : Int) + 1 == 0) = false := by simp; omega
    have nn1 : ¬ (n : Int) + 1 < 0 := by omega
    clear HR HEx
    go_wp2_with fail
    refine Calls.mono (close_any HO.out _ HP.out.i.re) ?_
    rintro e w3 ⟨rfl, ta, ra⟩
    have HC9 := hid2 (HP.out.turn ta ra)
    clear ta ra HP HO c0 c1 c2 cl
    obtain ⟨av, cv, rfl⟩ := HC9.out.pa.val
    obtain ⟨g0, g1, g2, g3, g4, g5, h0, h1, h2, h3, h4, h5⟩ := HC9.out.i.gx.six
    have gl := HC9.out.i.gx.lt
    obtain ⟨x0, x1, x2, x3, x4, x5, y0, y1, y2, y3, y4, y5⟩ := HC9.out.i.rs.six
    have xl := HC9.out.i.rs.lt
    go_wp2_with fail
    have hrl := HC9.out.i.rl
    have k6 := turn_six w3 (w.heap.size + 1) (.int .i64 kq) (.string ⟨#[]⟩) (.int .i64 0) (.int .i64 0) (.int .i64 (a : Nat)) (.slice av ts.length cv)
    refine bodyPost_ret (v := tmV (tm kq a (ts.map Prod.fst)) (.slice av ts.length cv)) (by simp [results, Tryz.results165, go_sem, *]) rfl (hP.out _ _ _ (mustR c k_rp S2) ⟨?_, ?_, ?_⟩ HR2.out)
    · exact HC9.out.i.tn.trans k6 (fun i hi => .inr (by simp at hi; omega))
    · exact HC9.out.i.re.turn k6 (by simp; omega) (by simp; omega)
    · exact SitB.lower ((HC9.out.pa.turn k6 (by simp)).sits (fit_of _ _ _ _ _ _ hz0.out hk1.1 hk1.2 (Nat.zero_le _) zero64 zero64 ha0.out) rfl) (by omega)
end Go.Proofs.YtecdfnpbcabdnaaGreatDoor

/- The law's awake. ParseBlanks: the law. -/
import Derived.Test.YtalmagpikacafaaGreatDoorPxN
import Derived.Test.YtalmagpikacafaaGreatDoorMgE
import Derived.Test.YtalmagpikacafaaGreatDoorTsB
section
namespace Go.Proofs.YtalmagpikacafaaGreatDoor
open Go.RowKit Go.Lib

abbrev awT : Tm := tm 18 2 [⟨2, ⟨#[97]⟩, 0, 0, 0, []⟩, tm 20 6 [⟨2, ⟨#[98]⟩, 0, 0, 4, []⟩, ⟨1, ⟨#[]⟩, 2000000, 0, 8, []⟩]]
theorem aw_expr : exprS ⟨#[97, 32, 43, 32, 98, 32, 42, 32, 50]⟩ = .ok awT := by kernel_rfl
/-- A term's parts, two of them. -/
theorem two_parts {Q : Nat → Prop} {z : Nat} {w : World} {t x y : Tm} {v : Value} (h : SitQ Q z w t v) (hp : t.parts = [x, y]) : ∃ b off cap u1 u2, v = .slice (some ⟨b, off, none⟩) 2 cap ∧ b < w.heap.size ∧ Six w b off x u1 ∧ SitQ Q z w x u1 ∧ Six w b (off + 6) y u2 ∧ SitQ Q z w y u2 := by
  obtain ⟨ad, cap, hv, hl, hc, hq⟩ := h.parts
  rw [hp] at hv hq
  rcases hq with hq | ⟨b, off, rfl, hb, _, hx⟩
  · simp at hq
  · obtain ⟨u1, s1, t1⟩ := hx 0 (by simp)
    obtain ⟨u2, s2, t2⟩ := hx 1 (by simp)
    refine ⟨b, off, cap, u1, u2, hv, hb, ?_, t1, ?_, t2⟩
    · simpa using s1
    · simpa using s2
set_option maxHeartbeats 1000000 in
set_option maxRecDepth 20000 in
theorem awake13_c (w : World) (hT : TabsAt w) (hE : ErrT w) : Calls Tryz.prog 9 #[] w fun e w' => e = .returned (.bool true) ∧ Below w.heap.size w w' := by
  have HX := hid2 (exprF_c ⟨#[97, 32, 43, 32, 98, 32, 42, 32, 50]⟩ w hT hE)
  clear hT hE
  go_enter Tryz.func9, Tryz.ntmps9
  go_wp2_with fail
  refine Calls.mono HX.out ?_
  intro e w1 h1
  unfold ExP at h1
  rw [aw_expr] at h1
  obtain ⟨b1, u, rfl, hs⟩ := h1
  obtain ⟨b, off, cap, u1, u2, rfl, hb, _, _, s2, _⟩ := two_parts hs rfl
  have c0 : w1.cell? ⟨b, off + 6, none⟩ = some (.int .i64 20) := s2.c0
  clear hs s2 HX
  simp only [tmV]
  go_wp2_with fail
  go_ret
  exact ⟨rfl, b1.alloc b1.size _⟩
end Go.Proofs.YtalmagpikacafaaGreatDoor
end
section
namespace Go.Proofs.YtalmagpikacafaaGreatDoor
open Go.RowKit Go.Lib

theorem ba_get (s : ByteArray) (i : Nat) (h : i < s.size) : s[i] = s.get! i := by
  rw [gd]
  have h2 : i < s.data.toList.length := by rw [← Lib.size_eq]; exact h
  rw [List.getElem?_eq_getElem h2]
  rfl
theorem sitq_up {Q : Nat → Prop} {z z' : Nat} (hz : z ≤ z') {w : World} (t : Tm) : ∀ v, SitQ Q z w t v → SitQ Q z' w t v := by
  induction t using Tm.ind with
  | h t ih =>
    intro v h
    rw [sitq_iff] at h ⊢
    obtain ⟨hf, ad, cap, hv, hl, hc, hp⟩ := h
    refine ⟨⟨hf.k, hf.n, hf.m, hf.a, Nat.le_trans hf.s hz⟩, ad, cap, hv, hl, hc, ?_⟩
    rcases hp with hp | ⟨b, off, ha, hb, hq, hp⟩
    · exact .inl hp
    · refine .inr ⟨b, off, ha, hb, hq, fun i hi => ?_⟩
      obtain ⟨u, h6, hu⟩ := hp i hi
      exact ⟨u, h6, ih _ (List.getElem_mem hi) u hu⟩
/-- Two terms in memory are held against one another. -/
theorem same_sit {A B z1 z2 : Nat} {t y : Tm} {v v' : Value} (w : World) (h1 : SitB A z1 w t v) (h2 : SitB B z2 w y v') (ha : Al t y) : Calls Tryz.prog 18 #[tmV t v, tmV y v'] w fun e w' => e = .returned (.bool true) ∧ Below w.heap.size w w' := by
  have := rSame_all (z := max z1 z2) t y v v' w (SitQ.sits _ _ (sitq_up (Nat.le_max_left _ _) _ _ h1)) (SitQ.sits _ _ (sitq_up (Nat.le_max_right _ _) _ _ h2))
  rw [show sameB t y = true from ha] at this
  exact this
/-- The places of what is read lie where they lay. -/
theorem sit_next {B z : Nat} {w w' : World} {t : Tm} {v : Value} (h : SitB B z w t v) (k : Below w.heap.size w w') : SitB B z w' t v := SitB.turn (S := []) h (Turn.of_below k) (by simp)
set_option maxHeartbeats 8000000 in
set_option maxRecDepth 20000 in
theorem parseBlanks_c (s : ByteArray) (w : World) (hT : TabsAt w) (hE : ErrT w) : Calls Tryz.prog 7 #[.string s] w fun e w' => e = .returned (.bool true) ∧ Below w.heap.size w w' := by
  have HA := hid2 (fun W (k : Below w.heap.size w W) => awake13_c W (hT.next k) ((k.cell (p := ⟨0, 0, none⟩) (World.block_lt_of_cell? w _ hE)).trans hE))
  have HX := hid2 (fun x W (k : Below w.heap.size w W) => exprF_c x W (hT.next k) ((k.cell (p := ⟨0, 0, none⟩) (World.block_lt_of_cell? w _ hE)).trans hE))
  clear hT hE
  by_cases hz : 2000 < s.size
  · have hz' : (2000 : Int) < (s.size : Int) := by omega
    go_enter Tryz.func7, Tryz.ntmps7
    go_wp2_with fail
    refine Calls.mono (HA.out _ (Below.refl _ _)) ?_
    rintro e w1 ⟨rfl, b1⟩
    go_wp2_with fail
    refine Calls.mono (HA.out _ b1) ?_
    rintro e w2 ⟨rfl, b2⟩
    go_wp2_with fail
    go_ret
    exact ⟨rfl, below_on b1 b2 b1.size⟩
  · have hz' : ¬ (2000 : Int) < (s.size : Int) := by omega
    have hz2 : s.size ≤ 2000 := by omega
    rcases hx : exprS s with f | t
    · have hf := exprS_nz s f hx
      have hf0 : (f.2 != 0) = true := by simpa using hf
      have H1 : Hid (∀ W, Below w.heap.size w W → Calls Tryz.prog 13 #[.string s] W fun e w' => e = .returned (.tuple #[.agg (zs6).toArray, .int .i64 (f.1 : Nat), .int .i64 f.2]) ∧ Below W.heap.size W w') := fun W k => (HX.out s W k).mono fun e w' h => by
        unfold ExP at h
        rw [hx] at h
        exact ⟨h.2, h.1⟩
      clear HX hx
      go_enter Tryz.func7, Tryz.ntmps7
      go_wp2_with fail
      refine Calls.mono (HA.out _ (Below.refl _ _)) ?_
      rintro e w1 ⟨rfl, b1⟩
      go_wp2_with fail
      refine Calls.mono (H1.out _ b1) ?_
      rintro e w2 ⟨rfl, b2⟩
      have b12 := below_on b1 b2 b1.size
      go_wp2_with fail
      go_ret
      exact ⟨rfl, b12.alloc b12.size _⟩
    · have H1 : Hid (∀ W, Below w.heap.size w W → Calls Tryz.prog 13 #[.string s] W fun e w' => (∃ u, e = .returned (.tuple #[tmV t u, .int .i64 0, .int .i64 0]) ∧ SitB W.heap.size s.size w' t u) ∧ Below W.heap.size W w') := fun W k => (HX.out s W k).mono fun e w' h => by
        unfold ExP at h
        rw [hx] at h
        exact ⟨h.2, h.1⟩
      have HXX := hid2 hx
      clear hx
      go_enter Tryz.func7, Tryz.ntmps7
      go_wp2_with fail
      refine Calls.mono (HA.out _ (Below.refl _ _)) ?_
      rintro e w1 ⟨rfl, b1⟩
      go_wp2_with fail
      refine Calls.mono (H1.out _ b1) ?_
      rintro e w2 ⟨⟨u, rfl, s2⟩, b2⟩
      have b12 := below_on b1 b2 b1.size
      obtain ⟨av, cv, hu, -, -⟩ := s2.parts.shape
      subst hu
      have S2 := hid2 s2
      generalize hnn : t.parts.length = nn at *
      clear s2 b2 H1
      simp only [tmV]
      go_wp2_with fail
      have B3 := hid2 (b12.alloc b12.size (.cells (tmL t (.slice av nn cv)).toArray 33))
      have S3 := hid2 (sit_next S2.out ((Below.refl _ w2).alloc (Nat.le_refl _) (.cells (tmL t (.slice av nn cv)).toArray 33)))
      have X3 := hid2 (Box.new w2 (tmL t (.slice av nn cv)) 33)
      clear S2 b12 b1
      generalize hW : w2.alloc _ = W3 at *
      clear hW
      go_loopw [6] (fun p wr => ∃ i : Nat, p = .int .i64 i ∧ i ≤ s.size ∧ Hid (∀ j, j < i → s.get! j ≠ 35) ∧ wr = W3) (fun p _ => s.size - (RowKit.intOf p).toNat)
      · exact ⟨0, rfl, Nat.zero_le _, fun j hj => by omega, rfl⟩
      obtain ⟨i, rfl, hi, HB, rfl⟩ := hrel
      by_cases hlt : i < s.size
      · have hlt' : (i : Int) < (s.size : Int) := by omega
        go_wp2_with fail
        all_goals first
          | (go_ret; exact ⟨rfl, B3.out⟩)
          | (rename_i hq
             refine ⟨⟨i + 1, by simp, by omega, fun j hj => ?_, trivial⟩, by simp [RowKit.intOf]; omega⟩
             by_cases hji : j = i
             · subst hji
               intro h35
               rw [ba_get s j hlt, h35] at hq
               simp at hq
             · exact HB.out j (by omega))
      · have h35 : ∀ c, s.get! c ≠ 35 := fun c => by
          by_cases hc : c < s.size
          · exact HB.out c (by omega)
          · intro h
            exact hc (get_in (by rw [h]; decide))
        obtain ⟨tu, e1, ha1⟩ := blanks_1 HXX.out hz2 h35
        have H2 := blanks_2 HXX.out hz2 h35
        have N1 := HX.out ((pre1 ++ s) ++ post1) wr B3.out
        unfold ExP at N1
        rw [e1] at N1
        have HN1 := hid2 N1
        have HH2 := hid2 H2
        have HA1 := hid2 ha1
        clear N1 H2 ha1 h35 HB
        go_wp2_with fail
        refine Calls.mono HN1.out ?_
        rintro e w4 ⟨b4, u4, rfl, s4⟩
        obtain ⟨au, cu, hu, -, -⟩ := s4.parts.shape
        subst hu
        have S4 := hid2 s4
        generalize hnu : tu.parts.length = nu at *
        have T4 := hid2 (sit_next S3.out b4)
        have Y4 := hid2 (X3.out.next b4)
        have B4 := hid2 (below_on B3.out b4 B3.out.size)
        clear s4 b4 HN1 S3 X3 B3
        simp only [tmV]
        go_wp2_with fail
        have al5 := (Below.refl _ w4).alloc (Nat.le_refl _) (.cells (tmL tu (.slice au nu cu)).toArray 33)
        have B5 := hid2 (below_on B4.out al5 B4.out.size)
        have S5 := hid2 (sit_next S4.out al5)
        have T5 := hid2 (sit_next T4.out al5)
        have Y5 := hid2 (Y4.out.next al5)
        have X5 := hid2 (Box.new w4 (tmL tu (.slice au nu cu)) 33)
        clear al5 B4 S4 T4 Y4
        generalize hW5 : w4.alloc _ = w5 at *
        clear hW5
        rcases HH2.out with ⟨ea, eb, e2, e3⟩ | ⟨tv, tx, e2, hav, e3, hax⟩
        · have N2 := HX.out ((b40 ++ s) ++ b41) w5 B5.out
          unfold ExP at N2
          rw [e2] at N2
          have HN2 := hid2 N2
          clear N2 HH2
          refine Calls.mono HN2.out ?_
          rintro e w6 ⟨b6, rfl⟩
          have B6 := below_on B5.out b6 B5.out.size
          have S6 := hid2 (sit_next S5.out b6)
          have T6 := hid2 (sit_next T5.out b6)
          have Y6 := hid2 (Y5.out.next b6)
          have X6 := hid2 (X5.out.next b6)
          clear b6 S5 T5 Y5 X5 B5 HN2
          go_wp2_with fail
          -- END
          have B6h := hid2 B6
          clear B6
          have al7 := (Below.refl _ w6).alloc (Nat.le_refl _) (.cells (zs6).toArray 33)
          have B7 := hid2 (below_on B6h.out al7 B6h.out.size)
          have S7 := hid2 (sit_next S6.out al7)
          have T7 := hid2 (sit_next T6.out al7)
          have Y7 := hid2 (Y6.out.next al7)
          have X7 := hid2 (X6.out.next al7)
          clear al7 B6h S6 T6 Y6 X6
          generalize hW7 : w6.alloc _ = w7 at *
          clear hW7
          have N3 := HX.out ((pre3 ++ s) ++ b41) w7 B7.out
          unfold ExP at N3
          rw [e3] at N3
          have HN3 := hid2 N3
          clear N3
          refine Calls.mono HN3.out ?_
          rintro e w8 ⟨b8, rfl⟩
          have B8 := hid2 (below_on B7.out b8 B7.out.size)
          have S8 := hid2 (sit_next S7.out b8)
          have T8 := hid2 (sit_next T7.out b8)
          have Y8 := hid2 (Y7.out.next b8)
          have X8 := hid2 (X7.out.next b8)
          clear b8 HN3 B7 S7 T7 Y7 X7
          have al9 := (Below.refl _ w8).alloc (Nat.le_refl _) (.cells (zs6).toArray 33)
          have B9 := hid2 (below_on B8.out al9 B8.out.size)
          have S9 := hid2 (sit_next S8.out al9)
          have T9 := hid2 (sit_next T8.out al9)
          have Y9 := hid2 (Y8.out.next al9)
          have X9 := hid2 (X8.out.next al9)
          have HSM := hid2 (same_sit (w8.alloc (.cells (zs6).toArray 33)) T9.out S9.out HA1.out)
          obtain ⟨t0, t1, t2, t3, t4, t5, _⟩ := Y8.out.six
          obtain ⟨x0, x1, x2, x3, x4, x5, _⟩ := X8.out.six
          have yl := Y8.out.lt
          have xl := X8.out.lt
          simp only [tmV] at HSM
          clear al9 S8 T8 Y8 X8 B8 e2 e3
          go_wp2_with fail
          refine Calls.mono HSM.out ?_
          rintro e w10 ⟨rfl, b10⟩
          have B10 := below_on B9.out b10 B9.out.size
          go_wp2_with fail
          go_ret
          exact ⟨rfl, B10⟩
        · have N2 := HX.out ((b40 ++ s) ++ b41) w5 B5.out
          unfold ExP at N2
          rw [e2] at N2
          have HN2 := hid2 N2
          clear N2 HH2
          refine Calls.mono HN2.out ?_
          rintro e w6 ⟨b6, u6, rfl, v6⟩
          obtain ⟨aw, cw, hu, -, -⟩ := v6.parts.shape
          subst hu
          have SV6 := hid2 v6
          generalize hnw : tv.parts.length = nw at *
          clear v6
          have B6 := hid2 (below_on B5.out b6 B5.out.size)
          have S6 := hid2 (sit_next S5.out b6)
          have T6 := hid2 (sit_next T5.out b6)
          have Y6 := hid2 (Y5.out.next b6)
          have X6 := hid2 (X5.out.next b6)
          clear b6 S5 T5 Y5 X5 B5 HN2
          simp only [tmV]
          go_wp2_with fail
          have al7 := (Below.refl _ w6).alloc (Nat.le_refl _) (.cells (tmL tv (.slice aw nw cw)).toArray 33)
          have B7 := hid2 (below_on B6.out al7 B6.out.size)
          have S7 := hid2 (sit_next S6.out al7)
          have T7 := hid2 (sit_next T6.out al7)
          have Y7 := hid2 (Y6.out.next al7)
          have X7 := hid2 (X6.out.next al7)
          have SV7 := hid2 (sit_next SV6.out al7)
          have V7 := hid2 (Box.new w6 (tmL tv (.slice aw nw cw)) 33)
          clear al7 B6 S6 T6 Y6 X6 SV6
          generalize hW7 : w6.alloc _ = w7 at *
          clear hW7
          have N3 := HX.out ((pre3 ++ s) ++ b41) w7 B7.out
          unfold ExP at N3
          rw [e3] at N3
          have HN3 := hid2 N3
          clear N3
          refine Calls.mono HN3.out ?_
          rintro e w8 ⟨b8, u8, rfl, v8⟩
          obtain ⟨pb, po, pc, k1, k2, rfl, hpb, _, _, p6, sx⟩ := two_parts v8 rfl
          obtain ⟨ax, cx, hu, -, -⟩ := sx.parts.shape
          subst hu
          have TX8 := hid2 sx
          have P8 := hid2 p6
          generalize hnx : tx.parts.length = nx at *
          clear v8 sx p6
          have B8 := hid2 (below_on B7.out b8 B7.out.size)
          have S8 := hid2 (sit_next S7.out b8)
          have T8 := hid2 (sit_next T7.out b8)
          have Y8 := hid2 (Y7.out.next b8)
          have X8 := hid2 (X7.out.next b8)
          have SV8 := hid2 (sit_next SV7.out b8)
          have V8 := hid2 (V7.out.next b8)
          clear b8 HN3 B7 S7 T7 Y7 X7 SV7 V7
          simp only [tmV]
          obtain ⟨t0, t1, t2, t3, t4, t5, _⟩ := Y8.out.six
          obtain ⟨x0, x1, x2, x3, x4, x5, _⟩ := X8.out.six
          have yl := Y8.out.lt
          have xl := X8.out.lt
          have al9 := (Below.refl _ w8).alloc (Nat.le_refl _) (.cells #[.int .i64 18, .string ⟨#[]⟩, .int .i64 0, .int .i64 0, .int .i64 2, .slice (some ⟨pb, po, none⟩) 2 pc] 33)
          have B9 := hid2 (below_on B8.out al9 B8.out.size)
          have S9 := hid2 (sit_next S8.out al9)
          have T9 := hid2 (sit_next T8.out al9)
          have Y9 := hid2 (Y8.out.next al9)
          have SV9 := hid2 (sit_next SV8.out al9)
          have V9 := hid2 (V8.out.next al9)
          have TX9 := hid2 (sit_next TX8.out al9)
          have Z9 := hid2 (Box.new w8 [.int .i64 18, .string ⟨#[]⟩, .int .i64 0, .int .i64 0, .int .i64 2, .slice (some ⟨pb, po, none⟩) 2 pc] 33)
          have P9 := hid2 (P8.out.keep (w' := (w8.alloc (.cells #[.int .i64 18, .string ⟨#[]⟩, .int .i64 0, .int .i64 0, .int .i64 2, .slice (some ⟨pb, po, none⟩) 2 pc] 33))) (fun j => al9.cell (p := ⟨pb, j, none⟩) hpb))
          have hpb9 : pb < (w8.alloc (.cells #[.int .i64 18, .string ⟨#[]⟩, .int .i64 0, .int .i64 0, .int .i64 2, .slice (some ⟨pb, po, none⟩) 2 pc] 33)).heap.size := by simp; omega
          have HSM := hid2 (same_sit (w8.alloc (.cells #[.int .i64 18, .string ⟨#[]⟩, .int .i64 0, .int .i64 0, .int .i64 2, .slice (some ⟨pb, po, none⟩) 2 pc] 33)) T9.out S9.out HA1.out)
          simp only [tmV] at HSM
          clear al9 S8 T8 Y8 X8 B8 SV8 V8 TX8 P8 e2 e3 HX HA HXX
          go_wp2_with fail
          refine Calls.mono HSM.out ?_
          rintro e w10 ⟨rfl, b10⟩
          clear t0 t1 t2 t3 t4 t5 x0 x1 x2 x3 x4 x5 yl xl
          have B10 := hid2 (below_on B9.out b10 B9.out.size)
          have T10 := hid2 (sit_next T9.out b10)
          have Y10 := hid2 (Y9.out.next b10)
          have SV10 := hid2 (sit_next SV9.out b10)
          have V10 := hid2 (V9.out.next b10)
          have TX10 := hid2 (sit_next TX9.out b10)
          have Z10 := hid2 (Z9.out.next b10)
          have P10 := P9.out.keep (w' := w10) (fun j => b10.cell (p := ⟨pb, j, none⟩) hpb9)
          have hpb10 := Nat.lt_of_lt_of_le hpb9 b10.size
          have HS1 := hid2 (fun W (k : Below w10.heap.size w10 W) => same_sit W (sit_next T10.out k) (sit_next SV10.out k) hav)
          have HS2 := hid2 (fun W (k : Below w10.heap.size w10 W) => same_sit W (sit_next TX10.out k) (sit_next T10.out k) hax)
          simp only [tmV] at HS1 HS2
          obtain ⟨t0, t1, t2, t3, t4, t5, _⟩ := Y10.out.six
          obtain ⟨v0, v1, v2, v3, v4, v5, _⟩ := V10.out.six
          obtain ⟨z0, z1, z2, z3, z4, z5, _⟩ := Z10.out.six
          obtain ⟨p0, p1, p2, p3, p4, p5⟩ := P10
          have P10 : Six w10 pb (po + 6) tx (.slice ax nx cx) := ⟨p0, p1, p2, p3, p4, p5⟩
          have tl := Y10.out.lt
          have vl := V10.out.lt
          have zl := Z10.out.lt
          clear b10 T9 Y9 SV9 V9 TX9 Z9 P9 B9 HSM
          go_wp2_with fail
          go_region_held3 (fun w' => w'.cell? ⟨w2.heap.size, 0, none⟩ = some (.int .i64 t.kind) ∧ w'.cell? ⟨w2.heap.size, 1, none⟩ = some (.string t.text) ∧ w'.cell? ⟨w2.heap.size, 2, none⟩ = some (.int .i64 t.n) ∧ w'.cell? ⟨w2.heap.size, 3, none⟩ = some (.int .i64 t.m) ∧ w'.cell? ⟨w2.heap.size, 4, none⟩ = some (.int .i64 t.pl) ∧ w'.cell? ⟨w2.heap.size, 5, none⟩ = some (.slice av nn cv) ∧ w'.cell? ⟨w6.heap.size, 0, none⟩ = some (.int .i64 tv.kind) ∧ w'.cell? ⟨w6.heap.size, 1, none⟩ = some (.string tv.text) ∧ w'.cell? ⟨w6.heap.size, 2, none⟩ = some (.int .i64 tv.n) ∧ w'.cell? ⟨w6.heap.size, 3, none⟩ = some (.int .i64 tv.m) ∧ w'.cell? ⟨w6.heap.size, 4, none⟩ = some (.int .i64 tv.pl) ∧ w'.cell? ⟨w6.heap.size, 5, none⟩ = some (.slice aw nw cw) ∧ w'.cell? ⟨w8.heap.size, 0, none⟩ = some (.int .i64 18) ∧ w'.cell? ⟨w8.heap.size, 5, none⟩ = some (.slice (some ⟨pb, po, none⟩) 2 pc) ∧ w'.cell? ⟨pb, po + 6, none⟩ = some (.int .i64 tx.kind) ∧ w'.cell? ⟨pb, po + 6 + 1, none⟩ = some (.string tx.text) ∧ w'.cell? ⟨pb, po + 6 + 2, none⟩ = some (.int .i64 tx.n) ∧ w'.cell? ⟨pb, po + 6 + 3, none⟩ = some (.int .i64 tx.m) ∧ w'.cell? ⟨pb, po + 6 + 4, none⟩ = some (.int .i64 tx.pl) ∧ w'.cell? ⟨pb, po + 6 + 5, none⟩ = some (.slice ax nx cx)) (first | exact ⟨t012, t112, t212, t312, t412, t512, v012, v112, v212, v312, v412, v512, z012, z512, p012, p112, p212, p312, p412, p512⟩ | exact ⟨t011, t111, t211, t311, t411, t511, v011, v111, v211, v311, v411, v511, z011, z511, p011, p111, p211, p311, p411, p511⟩ | exact ⟨t0, t1, t2, t3, t4, t5, v0, v1, v2, v3, v4, v5, z0, z5, p0, p1, p2, p3, p4, p5⟩ | (simp only [go_sem]; exact ⟨t0, t1, t2, t3, t4, t5, v0, v1, v2, v3, v4, v5, z0, z5, p0, p1, p2, p3, p4, p5⟩)) (first
            | (have c12 := b11h.out; go_at_call 18; refine Calls.mono (HS2.out _ c12) ?_; rintro e w12 ⟨rfl, b12⟩; have B12 := hid2 (below_on B11.out b12 B11.out.size); have Y12 := hid2 (Y11.out.next b12); have V12 := hid2 (V11.out.next b12); have Z12 := hid2 (Z11.out.next b12); obtain ⟨t012, t112, t212, t312, t412, t512, _⟩ := Y12.out.six; obtain ⟨v012, v112, v212, v312, v412, v512, _⟩ := V12.out.six; obtain ⟨z012, z112, z212, z312, z412, z512, _⟩ := Z12.out.six; obtain ⟨p012, p112, p212, p312, p412, p512⟩ := (Six.keep (w' := w12) ⟨p011, p111, p211, p311, p411, p511⟩ (fun j => b12.cell (p := ⟨pb, j, none⟩) (Nat.lt_of_lt_of_le hpb10 c12.size))); clear b12 c12)
            | (go_at_call 18; refine Calls.mono (HS1.out _ (Below.refl _ _).drew) ?_; rintro e w11 ⟨rfl, c11⟩; have b11 : Below w10.heap.size w10 w11 := below_on (Below.refl _ _).drew c11 (Nat.le_refl _); have B11 := hid2 (below_on B10.out b11 B10.out.size); have Y11 := hid2 (Y10.out.next b11); have V11 := hid2 (V10.out.next b11); have Z11 := hid2 (Z10.out.next b11); obtain ⟨t011, t111, t211, t311, t411, t511, _⟩ := Y11.out.six; obtain ⟨v011, v111, v211, v311, v411, v511, _⟩ := V11.out.six; obtain ⟨z011, z111, z211, z311, z411, z511, _⟩ := Z11.out.six; obtain ⟨p011, p111, p211, p311, p411, p511⟩ := (Six.keep (w' := w11) P10 (fun j => b11.cell (p := ⟨pb, j, none⟩) hpb10)); have b11h := hid2 b11; clear c11 b11))
          all_goals go_wp2_with fail
          all_goals (go_ret; exact ⟨rfl, B12.out⟩)
end Go.Proofs.YtalmagpikacafaaGreatDoor
end

/- The law VerifyEmits walked. -/
import Derived.Test.YtigldebdljfnbaaDoorNcB
namespace Go.Proofs.YtigldebdljfnbaaDoor
open Go.RowKit

set_option maxHeartbeats 4000000 in
set_option maxRecDepth 20000 in
theorem verifyEmits_w (ck : PgP → Int × Int) (he : PgP → List Int × Int) (R : PgP × Int) (nd : Int) (p : PlP) (v : PlV) (w : World) (hs : PlAt w p v)
    (haw : ∀ W, Below w.heap.size w W → Calls Tryd.prog 4 #[] W fun e w' => e = .returned (.bool true) ∧ Below W.heap.size W w')
    (hnd : ∀ W, Below w.heap.size w W → Calls Tryd.prog 5 #[coV p.fin v.fi] W fun e w' => e = .returned (.int .i64 nd) ∧ Below W.heap.size W w')
    (hrm : ∀ W, Below w.heap.size w W → Calls Tryd.prog 6 #[plV p v] W fun e w' => ∃ u, e = .returned (.tuple #[pgV R.1 u, .int .i64 R.2]) ∧ PgRd w' R.1 u ∧ Below W.heap.size W w')
    (hck : ∀ (g : PgP) (u : PgV) (W : World), Below w.heap.size w W → PgRd W g u → PgOk g → Calls Tryd.prog 7 #[pgV g u] W fun e w' => e = .returned (.tuple #[.int .i64 (ck g).1, .int .i64 (ck g).2]) ∧ Below W.heap.size W w')
    (hht : ∀ (g : PgP) (u : PgV) (W : World), Below w.heap.size w W → PgRd W g u → PgOk g → Calls Tryd.prog 8 #[pgV g u] W fun e w' => Below W.heap.size W w' ∧ ∃ x, e = .returned (.tuple #[x, .int .i64 (he g).2]) ∧ RowsK w' x (he g).1.length 1 (fun i => [.int .i64 ((he g).1.getD i 0)]))
    (hok : R.2 = 0 → PgOk R.1 ∧ ∃ hs, Says ck he R.1 hs) :
    Calls Tryd.prog 3 #[plV p v] w fun r w' => r = .returned (.bool true) ∧ Below w.heap.size w w' := by
  have HAw := chid haw
  have HNd := chid hnd
  have HRm := chid hrm
  have HCk := chid hck
  have HHt := chid hht
  have HOk := chid hok
  obtain ⟨a1, c1, a2, c2, a3, c3, a4, c4, a5, c5, rfl, g1, g2, g3, g4⟩ := hs.shapes
  have B0 := chid (bel_alloc w (.cells (plL p ⟨.slice a1 p.mets.length c1, .slice a2 p.wins.length c2, .slice a3 p.crons.length c3, .slice a4 p.gs.length c4, .slice a5 p.fin.parts.length c5⟩).toArray 32))
  clear hs haw hnd hrm hck hht hok g1 g2 g3 g4
  obtain ⟨Q, er⟩ := R
  dsimp only at HRm HOk
  go_enter Tryd.func3, Tryd.ntmps3
  have HY0 := chid (Box.new w (plL p ⟨.slice a1 p.mets.length c1, .slice a2 p.wins.length c2, .slice a3 p.crons.length c3, .slice a4 p.gs.length c4, .slice a5 p.fin.parts.length c5⟩) 32)
  go_wp2_with fail
  refine Calls.mono (HAw.out _ B0.out) ?_
  rintro e w1 ⟨rfl, b1⟩
  have B1 := chid (cbelow_on B0.out b1 B0.out.size)
  replace HY0 := chid (HY0.out.next b1)
  clear b1 B0
  have x0 := HY0.out.cell 0 _ rfl
  have x1 := HY0.out.cell 1 _ rfl
  have x2 := HY0.out.cell 2 _ rfl
  have x3 := HY0.out.cell 3 _ rfl
  have x4 := HY0.out.cell 4 _ rfl
  have x5 := HY0.out.cell 5 _ rfl
  have x6 := HY0.out.cell 6 _ rfl
  have x7 := HY0.out.cell 7 _ rfl
  have x8 := HY0.out.cell 8 _ rfl
  have x9 := HY0.out.cell 9 _ rfl
  have x10 := HY0.out.cell 10 _ rfl
  have x11 := HY0.out.cell 11 _ rfl
  have x12 := HY0.out.cell 12 _ rfl
  have x13 := HY0.out.cell 13 _ rfl
  have xl := HY0.out.lt
  go_wp2_with fail
  refine Calls.mono (HNd.out _ B1.out) ?_
  rintro e w2 ⟨rfl, b2⟩
  have B2 := chid (cbelow_on B1.out b2 B1.out.size)
  replace HY0 := chid (HY0.out.next b2)
  clear b2 B1 x0 x1 x2 x3 x4 x5 x6 x7 x8 x9 x10 x11 x12 x13 xl HNd
  by_cases hbig : nd > 4096
  · go_wp2_with fail
    refine Calls.mono (HAw.out _ B2.out) ?_
    rintro e w3 ⟨rfl, b3⟩
    have B3 := chid (cbelow_on B2.out b3 B2.out.size)
    clear b3
    go_wp2_with fail
    go_ret
    exact ⟨rfl, B3.out⟩
  clear HAw
  have x0 := HY0.out.cell 0 _ rfl
  have x1 := HY0.out.cell 1 _ rfl
  have x2 := HY0.out.cell 2 _ rfl
  have x3 := HY0.out.cell 3 _ rfl
  have x4 := HY0.out.cell 4 _ rfl
  have x5 := HY0.out.cell 5 _ rfl
  have x6 := HY0.out.cell 6 _ rfl
  have x7 := HY0.out.cell 7 _ rfl
  have x8 := HY0.out.cell 8 _ rfl
  have x9 := HY0.out.cell 9 _ rfl
  have x10 := HY0.out.cell 10 _ rfl
  have x11 := HY0.out.cell 11 _ rfl
  have x12 := HY0.out.cell 12 _ rfl
  have x13 := HY0.out.cell 13 _ rfl
  have xl := HY0.out.lt
  go_wp2_with fail
  refine Calls.mono (HRm.out _ B2.out) ?_
  rintro r w3 ⟨u, rfl, pu, b3⟩
  have B3 := chid (cbelow_on B2.out b3 B2.out.size)
  clear HRm HY0 b3 x0 x1 x2 x3 x4 x5 x6 x7 x8 x9 x10 x11 x12 x13 xl B2 hbig
  obtain ⟨bk, dk, e1, -, -⟩ := RowsK.shape pu.k
  obtain ⟨bw, dw, e2, -, -⟩ := RowsK.shape pu.wi
  obtain ⟨br, dr, e3, -, -⟩ := RowsK.shape pu.cr
  obtain ⟨bc, dc, e4, -, -⟩ := RowsK.shape pu.c
  obtain ⟨vk, vw, vr, vc⟩ := u
  simp only at e1 e2 e3 e4
  subst e1 e2 e3 e4
  have HPu := chid pu
  clear pu
  have Bn := chid (bel_alloc w3 (.cells #[.int .i64 Q.met, .int .i64 Q.ru.mn, .int .i64 Q.ru.mx, .int .i64 Q.ru.st, .int .i64 Q.ru.up, .int .i64 Q.ru.dn, .slice bk Q.K.length dk, .slice bw Q.wins.length dw, .slice br Q.crons.length dr, .int .i64 Q.loc, .int .i64 Q.h, .slice bc Q.C.length dc] 38))
  have B4 := chid (cbelow_on B3.out Bn.out B3.out.size)
  by_cases her : er = 0
  case neg =>
    go_wp2_with fail
    go_ret
    exact ⟨rfl, B4.out⟩
  subst her
  obtain ⟨hok, hs, hsay⟩ := HOk.out rfl
  have HA3 := chid (Box.new w3 [.int .i64 Q.met, .int .i64 Q.ru.mn, .int .i64 Q.ru.mx, .int .i64 Q.ru.st, .int .i64 Q.ru.up, .int .i64 Q.ru.dn, .slice bk Q.K.length dk, .slice bw Q.wins.length dw, .slice br Q.crons.length dr, .int .i64 Q.loc, .int .i64 Q.h, .slice bc Q.C.length dc] 38)
  have HPk : Hid (∀ ga, Hid (ga = w3.heap.size) → w.heap.size ≤ ga) := chid (fun ga h => by rw [h.out]; exact B3.out.size)
  have HP0 := chid (fun ga (h : Hid (ga = w3.heap.size)) => (⟨w3, HPu.out, by rw [h.out]; exact Nat.le_refl _⟩ : ∃ w0, PgRd w0 Q ⟨.slice bk Q.K.length dk, .slice bw Q.wins.length dw, .slice br Q.crons.length dr, .slice bc Q.C.length dc⟩ ∧ w0.heap.size ≤ ga))
  replace HPu := chid (HPu.out.next Bn.out)
  go_wp2_with fail
  obtain ⟨ga, hga⟩ : ∃ ga, Hid (ga = w3.heap.size) := ⟨_, chid rfl⟩
  have HGa := chid (HPk.out ga hga)
  replace HP0 := chid (HP0.out ga hga)
  rw [← hga.out] at HA3 ⊢
  generalize hX3 : (w3.alloc _) = X3 at *
  clear hX3 Bn HPk hga B3 HOk
  have HC := HCk.out Q _ X3 B4.out HPu.out hok
  rw [hsay.chk] at HC
  refine Calls.mono HC ?_
  rintro e w4 ⟨rfl, b4⟩
  have B5 := chid (cbelow_on B4.out b4 B4.out.size)
  replace HA3 := chid (HA3.out.next b4)
  replace HPu := chid (HPu.out.next b4)
  clear b4 HC B4
  have z0 := HA3.out.cell 0 _ rfl
  have z1 := HA3.out.cell 1 _ rfl
  have z2 := HA3.out.cell 2 _ rfl
  have z3 := HA3.out.cell 3 _ rfl
  have z4 := HA3.out.cell 4 _ rfl
  have z5 := HA3.out.cell 5 _ rfl
  have z6 := HA3.out.cell 6 _ rfl
  have z7 := HA3.out.cell 7 _ rfl
  have z8 := HA3.out.cell 8 _ rfl
  have z9 := HA3.out.cell 9 _ rfl
  have z10 := HA3.out.cell 10 _ rfl
  have z11 := HA3.out.cell 11 _ rfl
  have zl := HA3.out.lt
  go_wp2_with fail
  have HH := HHt.out Q _ w4 B5.out HPu.out hok
  rw [hsay.hts] at HH
  refine Calls.mono HH ?_
  rintro e w5 ⟨b5, x, rfl, hx⟩
  dsimp only at hx
  have B6 := chid (cbelow_on B5.out b5 B5.out.size)
  replace HA3 := chid (HA3.out.next b5)
  replace HPu := chid (HPu.out.next b5)
  clear b5 HH B5 HHt z0 z1 z2 z3 z4 z5 z6 z7 z8 z9 z10 z11 zl
  obtain ⟨xa, xc, rfl, -, -⟩ := RowsK.shape hx
  have HX := chid hx
  have HLe := chid hsay.len
  have HFw := chid hsay.few
  rw [hsay.len]
  clear hx
  have z0 := HA3.out.cell 0 _ rfl
  have z1 := HA3.out.cell 1 _ rfl
  have z2 := HA3.out.cell 2 _ rfl
  have z3 := HA3.out.cell 3 _ rfl
  have z4 := HA3.out.cell 4 _ rfl
  have z5 := HA3.out.cell 5 _ rfl
  have z6 := HA3.out.cell 6 _ rfl
  have z7 := HA3.out.cell 7 _ rfl
  have z8 := HA3.out.cell 8 _ rfl
  have z9 := HA3.out.cell 9 _ rfl
  have z10 := HA3.out.cell 10 _ rfl
  have z11 := HA3.out.cell 11 _ rfl
  have zl := HA3.out.lt
  have hN : (Q.C.length : Int) ≤ 16384 := by have := HFw.out; omega
  go_wp2_with fail
  have HM2 := fun (a b : Int) W => max_two Tryd.prog a b W
  have HHs := chid (fun (i : Nat) (hi : i < Q.C.length) => most_next hs i (by rw [HLe.out]; exact hi))
  have HEn : Hid (mostF hs Q.C.length = Q.h) := chid (by rw [← hsay.len]; exact hsay.most)
  have HSy := chid hsay
  have HOq := chid hok
  clear hsay hok
  obtain ⟨N, hNe⟩ : ∃ N, Hid (N = Q.C.length) := ⟨_, chid rfl⟩
  go_loopw [9, 10] (fun m i wr => ∃ k : Nat, i = .int .i64 (k : Nat) ∧ k ≤ Q.C.length ∧ m = .int .i64 (mostF hs k) ∧ Hid (Below w5.heap.size w5 wr)) (fun _ i _ => match i with | .int _ z => ((Q.C.length : Int) - z).toNat | _ => 0)
  case atStart => exact ⟨0, rfl, by omega, rfl, chid (Below.refl _ _)⟩
  case round =>
    obtain ⟨k, rfl, hk, rfl, HBr⟩ := hrel
    by_cases hlt : k < Q.C.length
    · have hlt' : (k : Int) < (Q.C.length : Int) := by omega
      have hXr := RowsK.next HX.out HBr.out
      rw [HLe.out] at hXr
      obtain ⟨b1, o1, cap1, hv1, -, -, hbl1, hx1⟩ := RowsK.open hXr (by omega)
      cases hv1
      have p1 := hx1 k hlt 0 _ rfl
      rw [show o1 + k * 1 + 0 = o1 + k by omega] at p1
      clear hx1 hXr
      obtain ⟨y, hy⟩ : ∃ y, Hid (y = hs.getD k 0) := ⟨_, chid rfl⟩
      obtain ⟨m0, hm0⟩ : ∃ m0, Hid (m0 = mostF hs k) := ⟨_, chid rfl⟩
      have hnx : Hid (mostF hs (k + 1) = max m0 y) := chid (by rw [HHs.out k hlt, hm0.out, hy.out])
      rw [← hy.out] at p1
      rw [← hm0.out]
      go_wp2_with fail
      refine ⟨⟨k + 1, by go_num, by omega, ?_, HBr⟩, ?_⟩
      · rw [hnx.out]
      · show ((Q.C.length : Int) - ((k : Int) + 1)).toNat < ((Q.C.length : Int) - (k : Int)).toNat
        omega
    · have hlt' : ¬ (k : Int) < (Q.C.length : Int) := by omega
      obtain rfl : k = Q.C.length := by omega
      rw [HEn.out]
      have HA5 := chid (HA3.out.next HBr.out)
      have HP5 := chid (HPu.out.next HBr.out)
      have B7 := chid (cbelow_on B6.out HBr.out B6.out.size)
      clear z0 z1 z2 z3 z4 z5 z6 z7 z8 z9 z10 z11 zl HA3 HPu HX
      have z0 := HA5.out.cell 0 _ rfl
      have z1 := HA5.out.cell 1 _ rfl
      have z2 := HA5.out.cell 2 _ rfl
      have z3 := HA5.out.cell 3 _ rfl
      have z4 := HA5.out.cell 4 _ rfl
      have z5 := HA5.out.cell 5 _ rfl
      have z6 := HA5.out.cell 6 _ rfl
      have z7 := HA5.out.cell 7 _ rfl
      have z8 := HA5.out.cell 8 _ rfl
      have z9 := HA5.out.cell 9 _ rfl
      have z10 := HA5.out.cell 10 _ rfl
      have z11 := HA5.out.cell 11 _ rfl
      have zl := HA5.out.lt
      have hh0 : 0 ≤ Q.h := HSy.out.h0
      have hh4 : Q.h ≤ 4096 := HSy.out.h4
      have hwr : IntKind.i64.wrap (Q.h - 1) = Q.h - 1 := by rw [IntKind.wrap_i64]; omega
      have f10 := HA5.out.free 10 (by show 10 < 12; omega)
      have HX9 := chid (HA5.out.set 10 (by show 10 < 12; omega) (.int .i64 (Q.h - 1)))
      have HB9 := chid (B7.out.setCell (p := ⟨ga, 10, none⟩) HGa.out (.int .i64 (Q.h - 1)))
      have HP9 := chid (low_rd (HP0.out.elim fun w0 h => rd_set h.1 HP5.out h.2 10 (.int .i64 (Q.h - 1))) (Q.h - 1))
      go_wp2_with fail
      generalize hX9 : (wr.setCell _ _) = X9 at *
      clear hX9 HA5 HP5 B7 f10 z0 z1 z2 z3 z4 z5 z6 z7 z8 z9 z10 z11 zl
      have HC9 := HCk.out (lowP Q (Q.h - 1)) _ X9 HB9.out HP9.out (low_ok HOq.out (by unfold C64; omega))
      have hck2 : Hid (1 ≤ Q.h → (ck (lowP Q (Q.h - 1))).2 = 41) := chid HSy.out.less
      generalize ck (lowP Q (Q.h - 1)) = cc9 at *
      refine Calls.mono HC9 ?_
      rintro e w9 ⟨rfl, b9⟩
      have HBe := chid (cbelow_on HB9.out b9 HB9.out.size)
      have HA8 := chid (HX9.out.next b9)
      clear b9 HC9 HX9
      have z0 := HA8.out.cell 0 _ rfl
      have z1 := HA8.out.cell 1 _ rfl
      have z2 := HA8.out.cell 2 _ rfl
      have z3 := HA8.out.cell 3 _ rfl
      have z4 := HA8.out.cell 4 _ rfl
      have z5 := HA8.out.cell 5 _ rfl
      have z6 := HA8.out.cell 6 _ rfl
      have z7 := HA8.out.cell 7 _ rfl
      have z8 := HA8.out.cell 8 _ rfl
      have z9 := HA8.out.cell 9 _ rfl
      have z10 := HA8.out.cell 10 _ rfl
      have z11 := HA8.out.cell 11 _ rfl
      have zl := HA8.out.lt
      have hcz : Hid (Q.h - 1 < 0 ∨ cc9.2 = 41) := chid (by
        by_cases h1 : 1 ≤ Q.h
        · exact .inr (hck2.out h1)
        · exact .inl (by omega))
      clear hck2
      by_cases hlow : Q.h - 1 < 0
      · go_wp2_with fail
        go_ret
        exact ⟨rfl, HBe.out⟩
      · have h41 : cc9.2 = 41 := hcz.out.resolve_left hlow
        rw [h41]
        go_wp2_with fail
        go_ret
        exact ⟨rfl, HBe.out⟩
end Go.Proofs.YtigldebdljfnbaaDoor

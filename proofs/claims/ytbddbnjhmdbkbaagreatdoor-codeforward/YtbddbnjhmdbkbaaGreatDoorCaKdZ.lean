/- The law CodeForward, walked. -/
import Derived.Test.YtbddbnjhmdbkbaaGreatDoorCaKdY
import Derived.Test.YtbddbnjhmdbkbaaGreatDoorCaKeE
namespace Go.Proofs.YtbddbnjhmdbkbaaGreatDoor
open Go.RowKit

theorem emit_bad {q : Co → Co → Bool} {p : PlP} {G : PgP} {er : Int} (h : emitF q p = (G, er)) (he : er ≠ 0) : G = pg0 := by
  unfold emitF at h
  split at h
  · exact (Prod.mk.inj h).1.symm
  · split at h
    · exact (Prod.mk.inj h).1.symm
    · exact absurd (Prod.mk.inj h).2.symm he
theorem emit_len {q : Co → Co → Bool} {p : PlP} {G : PgP} (h : emitF q p = (G, 0)) : G.C.length ≤ 16384 ∧ G.K.length ≤ 16384 := by
  unfold emitF at h
  by_cases hf : formedP q p = false
  · rw [if_pos hf] at h
    exact absurd (Prod.mk.inj h).2 (by decide)
  · rw [if_neg hf] at h
    by_cases hl : largeB (progF p) = true
    · rw [if_pos hl] at h
      exact absurd (Prod.mk.inj h).2 (by decide)
    · rw [if_neg hl] at h
      obtain rfl := (Prod.mk.inj h).1
      unfold largeB at hl
      simp only [Bool.or_eq_true, decide_eq_true_eq, not_or] at hl
      omega
theorem emit_loc {q : Co → Co → Bool} {p : PlP} {G : PgP} (h : emitF q p = (G, 0)) : p.loc ≤ 256 := by
  unfold emitF at h
  by_cases hf : formedP q p = false
  · rw [if_pos hf] at h
    exact absurd (Prod.mk.inj h).2 (by decide)
  · have hf' : formedP q p = true := by simpa using hf
    unfold formedP at hf'
    simp only [Bool.and_eq_true] at hf'
    exact (of_decide_eq_true hf'.1.1.1.1.1).2.2.2.2
theorem ends_c (op : Int) (w : World) (h : op = 29 ∨ op = 30 ∨ op = 31) : Calls Tryz.prog 21 #[.int .i64 op] w fun e w' => e = .returned (.bool true) ∧ w' = w := by
  rcases h with rfl | rfl | rfl
  all_goals
    go_enter Tryz.func21, Tryz.ntmps21
    go_wp2_with fail
    go_ret
    exact ⟨rfl, rfl⟩
set_option maxHeartbeats 4000000 in
set_option maxRecDepth 20000 in
theorem codeForward_c (HEm : EmitC) (p : PlP) (v : PlV) (w : World) (hs : PlAt w p v) (hp : PWt p) (hF : FldAt w) (hP : PoAt w w.heap.size) (hm : p.wins.length * 32 ≤ 140737488355328 ∧ p.crons.length * 40 ≤ 140737488355328 ∧ C64 p.mets.length) :
    Calls Tryz.prog 6 #[plV p v] w fun r w' => r = .returned (.bool true) ∧ Below w.heap.size w w' := by
  classical
  obtain ⟨q, hq⟩ : ∃ q : Co → Co → Bool, ∀ a b, q a b = true ↔ a = b := ⟨fun a b => decide (a = b), fun a b => by simp⟩
  have hPW : ∀ W, Below w.heap.size w W → PoAt W W.heap.size := fun W hW => ⟨Nat.lt_of_lt_of_le hP.lt hW.size, Nat.lt_of_lt_of_le hP.lw hW.size, (hP.next hW).at'⟩
  have HAw := chid (fun W (hW : Below w.heap.size w W) => awake21_c HEm W (hF.later hW) (hPW W hW))
  have HFw := chid (fun W (hW : Below w.heap.size w W) => few21_c p v W (hs.next hW) hp.gs)
  have HPl := chid (fun W (hW : Below w.heap.size w W) => HEm q hq p v W (hs.next hW) (hF.later hW) (hPW W hW) hm.1 hm.2.1 hm.2.2)
  obtain ⟨a1, c1, a2, c2, a3, c3, a4, c4, a5, c5, rfl, g1, g2, g3, g4⟩ := hs.shapes
  have B0 := chid (bel_alloc w (.cells (plL p ⟨.slice a1 p.mets.length c1, .slice a2 p.wins.length c2, .slice a3 p.crons.length c3, .slice a4 p.gs.length c4, .slice a5 p.fin.parts.length c5⟩).toArray 32))
  have HY0 := chid (Box.new w (plL p ⟨.slice a1 p.mets.length c1, .slice a2 p.wins.length c2, .slice a3 p.crons.length c3, .slice a4 p.gs.length c4, .slice a5 p.fin.parts.length c5⟩) 32)
  clear hs hF hp hP hm hq g1 g2 g3 g4 hPW HEm
  obtain ⟨Q, er, hR⟩ : ∃ Q er, Hid (emitF q p = (Q, er)) := ⟨_, _, rfl⟩
  rw [hR.out] at HPl
  dsimp only at HPl
  go_enter Tryz.func6, Tryz.ntmps6
  go_wp2_with fail
  refine Calls.mono (HAw.out _ B0.out) ?_
  rintro e w1 ⟨rfl, b1⟩
  have B1 := chid (cbelow_on B0.out b1 B0.out.size)
  replace HY0 := chid (HY0.out.next b1)
  clear b1 B0
  have x0 := HY0.out.cell 0 _ rfl
  have x1 := HY0.out.cell 1 _ rfl
  have x2 := HY0.out.cell 2 _ rfl
  have x3 := HY0.out.cell 3 _ rfl
  have x4 := HY0.out.cell 4 _ rfl
  have x5 := HY0.out.cell 5 _ rfl
  have x6 := HY0.out.cell 6 _ rfl
  have x7 := HY0.out.cell 7 _ rfl
  have x8 := HY0.out.cell 8 _ rfl
  have x9 := HY0.out.cell 9 _ rfl
  have x10 := HY0.out.cell 10 _ rfl
  have x11 := HY0.out.cell 11 _ rfl
  have x12 := HY0.out.cell 12 _ rfl
  have x13 := HY0.out.cell 13 _ rfl
  have xl := HY0.out.lt
  go_wp2_with fail
  refine Calls.mono (HFw.out _ B1.out) ?_
  rintro e w2 ⟨rfl, b2⟩
  have B2 := chid (cbelow_on B1.out b2 B1.out.size)
  replace HY0 := chid (HY0.out.next b2)
  clear b2 B1 x0 x1 x2 x3 x4 x5 x6 x7 x8 x9 x10 x11 x12 x13 xl HFw
  cases hfw : fewL p with
  | false =>
    go_wp2_with fail
    refine Calls.mono (HAw.out _ B2.out) ?_
    rintro e w3 ⟨rfl, b3⟩
    have B3 := chid (cbelow_on B2.out b3 B2.out.size)
    clear b3
    go_wp2_with fail
    go_ret
    exact ⟨rfl, B3.out⟩
  | true =>
    clear HAw hfw
    have x0 := HY0.out.cell 0 _ rfl
    have x1 := HY0.out.cell 1 _ rfl
    have x2 := HY0.out.cell 2 _ rfl
    have x3 := HY0.out.cell 3 _ rfl
    have x4 := HY0.out.cell 4 _ rfl
    have x5 := HY0.out.cell 5 _ rfl
    have x6 := HY0.out.cell 6 _ rfl
    have x7 := HY0.out.cell 7 _ rfl
    have x8 := HY0.out.cell 8 _ rfl
    have x9 := HY0.out.cell 9 _ rfl
    have x10 := HY0.out.cell 10 _ rfl
    have x11 := HY0.out.cell 11 _ rfl
    have x12 := HY0.out.cell 12 _ rfl
    have x13 := HY0.out.cell 13 _ rfl
    have xl := HY0.out.lt
    go_wp2_with fail
    refine Calls.mono (HPl.out _ B2.out) ?_
    rintro r w3 ⟨u, rfl, pu, b3⟩
    have B3 := chid (cbelow_on B2.out b3 B2.out.size)
    replace HY0 := chid (HY0.out.next b3)
    obtain ⟨ak, ck, e1⟩ := own_shape pu.k
    obtain ⟨aw, cw, e2⟩ := own_shape pu.wi
    obtain ⟨ar, cr, e3⟩ := own_shape pu.cr
    obtain ⟨ac, cc, e4⟩ := own_shape pu.c
    obtain ⟨vk, vw, vr, vc⟩ := u
    simp only at e1 e2 e3 e4
    subst e1 e2 e3 e4
    have HPu := chid pu
    clear pu b3 B2 x0 x1 x2 x3 x4 x5 x6 x7 x8 x9 x10 x11 x12 x13 xl HPl
    have HB4 := chid (fun o => B3.out.alloc B3.out.size o)
    by_cases her : er = 0
    · subst her
      obtain ⟨hG, hloc, hall, hlast⟩ := emit_ok hR.out
      have HAll := chid hall
      have HLen := chid (emit_len hR.out)
      have HLoc := chid (emit_loc hR.out)
      have HRd : Hid ((∀ (i : Nat) (x : Ins), Q.C[i]? = some x → ∃ g, ac = some ⟨g, 0, none⟩ ∧ g < w3.heap.size ∧ w3.cell? ⟨g, i * 2, none⟩ = some (.int .i64 x.1) ∧ w3.cell? ⟨g, i * 2 + 1, none⟩ = some (.int .i64 x.2)) ∧ ∀ (i : Nat) (y : Int), Q.K[i]? = some y → ∃ g, ak = some ⟨g, 0, none⟩ ∧ g < w3.heap.size ∧ w3.cell? ⟨g, i, none⟩ = some (.int .i64 y)) := chid (by
        refine ⟨fun i x hx => ?_, fun i y hy => ?_⟩
        · obtain ⟨h1, ⟨h2, h3⟩ | ⟨g, cap, cur, h2, h3, h4, h5, h6, h7, h8⟩⟩ := HPu.out.c
          · have := (List.getElem?_eq_some_iff.1 hx).1; omega
          · have BX : Box w3 g (flI Q.C) := (Box.ofBlock h4).part (by rw [← h8]; exact List.take_prefix _ _)
            exact ⟨g, (Value.slice.inj h2).1, BX.lt, BX.cell _ _ (flI_at Q.C i x hx).1, BX.cell _ _ (flI_at Q.C i x hx).2⟩
        · obtain ⟨h1, ⟨h2, h3⟩ | ⟨g, cap, cur, h2, h3, h4, h5, h6, h7, h8⟩⟩ := HPu.out.k
          · have := (List.getElem?_eq_some_iff.1 hy).1; omega
          · have BX : Box w3 g (flK Q.K) := (Box.ofBlock h4).part (by rw [← h8]; exact List.take_prefix _ _)
            exact ⟨g, (Value.slice.inj h2).1, BX.lt, BX.cell i _ (by simp [flK, hy])⟩)
      obtain ⟨N, hN⟩ : ∃ N, Hid (N = Q.C.length) := ⟨_, chid rfl⟩
      obtain ⟨M, hM⟩ : ∃ M, Hid (M = Q.K.length) := ⟨_, chid rfl⟩
      have hNs : N ≤ 9223372036854775807 := by
        have h := HPu.out.c
        obtain ⟨h1, ⟨h2, h3⟩ | ⟨g, cap, cur, h2, h3, h4, h5, h6, h7, h8⟩⟩ := h
        · rw [hN.out, h3]; omega
        · have h9 : cap ≤ 9223372036854775807 := h6
          rw [hN.out]; omega
      have hMs : M ≤ 9223372036854775807 := by
        have h := HPu.out.k
        obtain ⟨h1, ⟨h2, h3⟩ | ⟨g, cap, cur, h2, h3, h4, h5, h6, h7, h8⟩⟩ := h
        · rw [hM.out, h3]; omega
        · have h9 : cap ≤ 9223372036854775807 := h6
          rw [hM.out]; omega
      obtain ⟨lx, hlx, hlo⟩ := hlast
      have hC0 : 0 < Q.C.length := by
        cases hc : Q.C with
        | nil => rw [hc] at hlx; cases hlx
        | cons a r => simp
      have HLx : Hid (Q.C[Q.C.length - 1]? = some lx) := chid (by rw [← List.getLast?_eq_getElem?]; exact hlx)
      have HLo := chid hlo
      have HGm : Hid (Q.met = p.mets.length ∧ Q.ru = p.ru ∧ Q.loc = p.loc) := chid (by rw [hG]; exact ⟨rfl, rfl, rfl⟩)
      have HLc := chid hloc
      clear hR hG hlx hlo hall hloc HB4 hC0
      have HB3 := chid B3.out
      obtain ⟨Qm, Qr, QK, Qw, Qc, Ql, Qh, QC⟩ := Q
      dsimp only at *
      obtain ⟨g1, g2, g3⟩ : Qm = (p.mets.length : Int) ∧ Qr = p.ru ∧ Ql = p.loc := HGm.out
      clear HGm
      subst g1 g2 g3
      rw [← hN.out, ← hM.out]
      have HK3 := chid (bel_alloc w3 (.cells #[.int .i64 (p.mets.length : Nat), .int .i64 p.ru.mn, .int .i64 p.ru.mx, .int .i64 p.ru.st, .int .i64 p.ru.up, .int .i64 p.ru.dn, .slice ak M ck, .slice aw Qw.length cw, .slice ar Qc.length cr, .int .i64 p.loc, .int .i64 Qh, .slice ac N cc] 55))
      have HB5 := chid (cbelow_on HB3.out HK3.out HB3.out.size)
      have HYq := chid (Box.new w3 [.int .i64 (p.mets.length : Nat), .int .i64 p.ru.mn, .int .i64 p.ru.mx, .int .i64 p.ru.st, .int .i64 p.ru.up, .int .i64 p.ru.dn, .slice ak M ck, .slice aw Qw.length cw, .slice ar Qc.length cr, .int .i64 p.loc, .int .i64 Qh, .slice ac N cc] 55)
      have HYp := chid (HY0.out.next HK3.out)
      have v0 := HYp.out.cell 0 _ rfl
      have v1 := HYp.out.cell 1 _ rfl
      have v2 := HYp.out.cell 2 _ rfl
      have v3 := HYp.out.cell 3 _ rfl
      have v4 := HYp.out.cell 4 _ rfl
      have v5 := HYp.out.cell 5 _ rfl
      have v8 := HYp.out.cell 8 _ rfl
      have vl := HYp.out.lt
      have q0 := HYq.out.cell 0 _ rfl
      have q11 := HYq.out.cell 11 _ rfl
      have hN0' : ((N : Int) == 0) = false := by have h := (List.getElem?_eq_some_iff.1 HLx.out).1; have := hN.out; simp; omega
      have hNp : N ≠ 0 := by have h := (List.getElem?_eq_some_iff.1 HLx.out).1; have := hN.out; omega
      have hw1 : IntKind.i64.wrap ((N : Int) - 1) = (N : Int) - 1 := by rw [IntKind.wrap_i64]; omega
      obtain ⟨g, rfl, hgl, lc0, lc1⟩ := HRd.out.1 _ _ HLx.out
      rw [← hN.out] at lc0 lc1
      go_wp2_with fail
      refine Calls.mono (ends_c lx.1 _ HLo.out) ?_
      rintro e wz ⟨rfl, hwz⟩
      subst hwz
      go_wp2_with fail
      generalize hX : (w3.alloc _) = X3 at *
      clear hX v0 v1 v2 v3 v4 v5 v8 vl q0 q11 lc0 lc1 hgl hNp
      go_loopw [6] (fun i wr => ∃ (j : Nat), i = .int .i64 (j : Nat) ∧ j ≤ N ∧ Hid (Below X3.heap.size X3 wr)) (fun i _ => match i with | .int _ z => ((N : Int) - z).toNat | _ => 0)
      case atStart => exact ⟨0, rfl, Nat.zero_le _, chid (Below.refl _ _)⟩
      case round =>
        obtain ⟨j, rfl, hj, HW⟩ := hrel
        by_cases hlt : j < N
        · have hlt' : (j : Int) < (N : Int) := by omega
          have hwj : IntKind.i64.wrap ((j : Int) + 1) = (j : Int) + 1 := by rw [IntKind.wrap_i64]; omega
          have hjl : j < QC.length := by rw [← hN.out]; exact hlt
          have hxx : QC[j]? = some QC[j] := List.getElem?_eq_getElem hjl
          generalize QC[j] = x at hxx
          obtain ⟨xo, xa⟩ := x
          have HIn : Hid (InOk p.loc.toNat (N - 1) QK j (xo, xa)) := chid (by have h := HAll.out j _ hxx; rw [← hN.out] at h; exact h)
          obtain ⟨g', hgg, hgl, e0, e1⟩ := HRd.out.1 j _ hxx
          obtain rfl : g = g' := by have := Option.some.inj hgg; exact (Addr.mk.inj this).1
          have HKr : Hid (Below w3.heap.size w3 wr) := chid (cbelow_on HK3.out HW.out HK3.out.size)
          have y0 := keepc HKr.out e0
          have y1 := keepc HKr.out e1
          have gl : g < wr.heap.size := Nat.lt_of_lt_of_le hgl HKr.out.size
          have hja : ((j : Int)).toNat = j := by omega
          have ba := bel_alloc wr (.cells #[.int .i64 xo, .int .i64 xa] 61)
          have HWa := chid (cbelow_on HW.out ba HW.out.size)
          have Yq := HYq.out.next HW.out
          have x6 := Yq.cell 6 _ rfl
          have x11 := Yq.cell 11 _ rfl
          have xl := Yq.lt
          have Yp := HYp.out.next HW.out
          have v8 := Yp.cell 8 _ rfl
          have vl := Yp.lt
          clear hxx hgg e0 e1 hgl ba hjl Yq Yp
          by_cases hjm : xo = 23 ∨ xo = 24 ∨ xo = 25 ∨ xo = 26
          · obtain ⟨h1, h2⟩ := HIn.out.jump hjm
            simp only at h1 h2
            have hn1 : ¬ xa ≤ (j : Int) := by omega
            have hn2 : ¬ (N : Int) ≤ xa := by omega
            have hn1' : decide (xa ≤ (j : Int)) = false := by simp; omega
            have hn2' : decide ((N : Int) ≤ xa) = false := by simp; omega
            clear h1 h2
            rcases hjm with rfl | rfl | rfl | rfl
            all_goals
              go_wp2_with fail
              exact ⟨⟨j + 1, by go_num, by omega, HWa⟩, by simp; omega⟩
          · by_cases h27 : xo = 27
            · subst h27
              obtain ⟨nn, to, n1, n2, t1, t2, hxa⟩ := HIn.out.have_ rfl
              simp only at hxa
              have hto : to < 16384 := by have := HLen.out.1; have := hN.out; omega
              have hlc2 : nn < p.loc := by have := HLc.out; omega
              have hlc3 : p.loc ≤ 256 := HLoc.out
              subst hxa
              have hq1 : wrap64 ((nn * 16384 + to).tdiv 16384) = nn := by
                rw [Int.tdiv_eq_ediv_of_nonneg (by omega)]
                have : (nn * 16384 + to) / 16384 = nn := by omega
                rw [this]
                unfold wrap64
                omega
              have hq2 : to % 16384 = to := by omega
              have hn1 : ¬ to ≤ (j : Int) := by omega
              have hn2 : ¬ (N : Int) ≤ to := by omega
              have hn3 : ¬ p.loc ≤ nn := by omega
              have hn1' : decide (to ≤ (j : Int)) = false := by simp; omega
              have hn2' : decide ((N : Int) ≤ to) = false := by simp; omega
              clear hto t1 t2 hjm
              go_wp2_with fail
              exact ⟨⟨j + 1, by go_num, by omega, HWa⟩, by simp; omega⟩
            · by_cases h1 : xo = 1
              · subst h1
                obtain ⟨kk, hk, vv, hv, -⟩ := HIn.out.num rfl
                simp only at hk
                have hkM : kk < M := by rw [hM.out]; exact (List.getElem?_eq_some_iff.1 hv).1
                subst hk
                have hk0 : ¬ (kk : Int) < 0 := by omega
                have hk1 : ¬ (M : Int) ≤ (kk : Int) := by omega
                have hk1' : decide ((M : Int) ≤ (kk : Int)) = false := by simp; omega
                clear hjm h27 hv
                go_wp2_with fail
                exact ⟨⟨j + 1, by go_num, by omega, HWa⟩, by simp; omega⟩
              · by_cases h11 : xo = 11
                · subst h11
                  obtain ⟨kk, hk, hkM⟩ := HIn.out.scale rfl
                  simp only at hk
                  subst hk
                  rw [← hM.out] at hkM
                  have hwM : IntKind.i64.wrap ((M : Int) - 1) = (M : Int) - 1 := by rw [IntKind.wrap_i64]; omega
                  have hk0 : ¬ (kk : Int) < 0 := by omega
                  have hk1 : ¬ (M : Int) - 1 ≤ (kk : Int) := by omega
                  have hk1' : decide ((M : Int) - 1 ≤ (kk : Int)) = false := by simp; omega
                  clear hjm h27 h1 hkM
                  go_wp2_with fail
                  exact ⟨⟨j + 1, by go_num, by omega, HWa⟩, by simp; omega⟩
                · have c1 : (xo == 27) = false := by simpa using h27
                  have c2 : (xo == 23) = false := by simp; omega
                  have c3 : (xo == 24) = false := by simp; omega
                  have c4 : (xo == 25) = false := by simp; omega
                  have c5 : (xo == 26) = false := by simp; omega
                  have c6 : (xo == 1) = false := by simpa using h1
                  have c7 : (xo == 11) = false := by simpa using h11
                  clear hjm h27 h1 h11
                  go_wp2_with fail
                  exact ⟨⟨j + 1, by go_num, by omega, HWa⟩, by simp; omega⟩
        · have hlt' : ¬ (j : Int) < (N : Int) := by omega
          go_wp2_with fail
          go_ret
          exact ⟨rfl, cbelow_on HB5.out HW.out HB5.out.size⟩
    · have her' : (er != 0) = true := by simpa using her
      obtain rfl := emit_bad hR.out her
      have HSm := chid (fun W (hW : Below w3.heap.size w3 W) => same21_c pg0 _ ⟨.slice none 0 0, .slice none 0 0, .slice none 0 0, .slice none 0 0⟩ W (HPu.out.rd.next hW) (pg0_at W 0).rd)
      have HA3 := chid (fun o => bel_alloc w3 o)
      go_wp2_with fail
      refine Calls.mono (HSm.out _ (HA3.out _)) ?_
      rintro e w4 ⟨rfl, b4⟩
      have B4 := chid (cbelow_on (HB4.out _) b4 (HB4.out _).size)
      clear b4
      go_wp2_with fail
      go_ret
      exact ⟨rfl, B4.out⟩
end Go.Proofs.YtbddbnjhmdbkbaaGreatDoor

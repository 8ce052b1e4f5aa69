/- Package verify: sound. -/
import Derived.Test.YtigldebdljfnbaaDoorNcD
namespace Go.Proofs.YtigldebdljfnbaaDoor
open Go.RowKit

theorem cell_al {w : World} {p : Addr} {v : Value} {o : Obj} (h : w.cell? p = some v) : (w.alloc o).cell? p = some v := ((bel_alloc w o).cell (World.block_lt_of_cell? _ _ h)).trans h
theorem cell_dr {w : World} {p : Addr} {v : Value} (h : w.cell? p = some v) : w.drew.cell? p = some v := ((Below.refl w.heap.size w).drew.cell (World.block_lt_of_cell? _ _ h)).trans h
theorem cell_st {w : World} {p q : Addr} {v x : Value} (h : w.cell? p = some v) (hn : p.block ≠ q.block) : (w.setCell q x).cell? p = some v := (World.cell?_setCell_other _ _ _ _ (by intro e'; exact hn (by rw [e']))).trans h
theorem target_d (a : Int) (W : World) : Calls Tryd.prog 45 #[.int .i64 a] W fun e w' => ∃ u, e = .returned u ∧ (u = .int .i64 (a.tmod 16384) ∧ w' = W) := (target_c a W).mono (fun _ _ ⟨h1, h2⟩ => ⟨_, h1, rfl, h2⟩)
theorem lead_n {f : Nat} {args : Array Value} {w0 w : World} {wb qb : Nat} {g : PgP} {u : PgV} (h : Calls Tryd.prog f args w (LeP none w0 w wb qb g u)) : Calls Tryd.prog f args w fun e w' => ∃ u, e = .returned u ∧ (u = .bool false ∧ Below w0.heap.size w0 w') := h.mono (fun _ _ ⟨⟨h1, h2⟩, _⟩ => ⟨_, h2, rfl, h1⟩)
theorem lead_s {f : Nat} {args : Array Value} {w0 w : World} {wb qb : Nat} {g : PgP} {u : PgV} {p : List (Option St)} (h : Calls Tryd.prog f args w (LeP (some p) w0 w wb qb g u)) : Calls Tryd.prog f args w fun e w' => ∃ v, e = .returned v ∧ (v = .bool true ∧ Wa w0 w' wb qb g u p ∧ Turn [qb] w w') := h.mono (fun _ _ ⟨⟨_, h2, h3⟩, h4⟩ => ⟨_, h2, rfl, h3, h4⟩)
theorem may_tmod {g : PgP} {n i a : Int} {op : Int} {r : Rw} (hr : rowF op = some r) (hm : mayF g n r.a i a = true) : r.d = 1 ∨ r.d = 2 → 0 ≤ a.tmod 16384 := by
  have hq := List.mem_of_find?_eq_some hr
  simp only [rwT, List.mem_cons, List.not_mem_nil, or_false] at hq
  intro hd
  rcases hq with rfl | rfl | rfl | rfl | rfl | rfl | rfl | rfl | rfl | rfl | rfl | rfl | rfl | rfl | rfl | rfl | rfl | rfl
  all_goals simp at hd
  all_goals simp [mayF] at hm
  all_goals first
    | exact Int.tmod_nonneg _ (leadsB_yes hm).2.1
    | exact (leadsB_yes hm.2).2.1
theorem s6_al {w : World} {o : Obj} {a1 a2 a3 a4 a5 a6 : Addr} {v1 v2 v3 v4 v5 v6 : Value} (h : w.cell? a1 = some v1 ∧ w.cell? a2 = some v2 ∧ w.cell? a3 = some v3 ∧ w.cell? a4 = some v4 ∧ w.cell? a5 = some v5 ∧ w.cell? a6 = some v6) : (w.alloc o).cell? a1 = some v1 ∧ (w.alloc o).cell? a2 = some v2 ∧ (w.alloc o).cell? a3 = some v3 ∧ (w.alloc o).cell? a4 = some v4 ∧ (w.alloc o).cell? a5 = some v5 ∧ (w.alloc o).cell? a6 = some v6 :=
  ⟨cell_al (h.1), cell_al (h.2.1), cell_al (h.2.2.1), cell_al (h.2.2.2.1), cell_al (h.2.2.2.2.1), cell_al (h.2.2.2.2.2)⟩
theorem s6_dr {w : World} {a1 a2 a3 a4 a5 a6 : Addr} {v1 v2 v3 v4 v5 v6 : Value} (h : w.cell? a1 = some v1 ∧ w.cell? a2 = some v2 ∧ w.cell? a3 = some v3 ∧ w.cell? a4 = some v4 ∧ w.cell? a5 = some v5 ∧ w.cell? a6 = some v6) : w.drew.cell? a1 = some v1 ∧ w.drew.cell? a2 = some v2 ∧ w.drew.cell? a3 = some v3 ∧ w.drew.cell? a4 = some v4 ∧ w.drew.cell? a5 = some v5 ∧ w.drew.cell? a6 = some v6 :=
  ⟨cell_dr (h.1), cell_dr (h.2.1), cell_dr (h.2.2.1), cell_dr (h.2.2.2.1), cell_dr (h.2.2.2.2.1), cell_dr (h.2.2.2.2.2)⟩
theorem s6_st {w : World} {q : Addr} {x : Value} {a1 a2 a3 a4 a5 a6 : Addr} {v1 v2 v3 v4 v5 v6 : Value} (h : w.cell? a1 = some v1 ∧ w.cell? a2 = some v2 ∧ w.cell? a3 = some v3 ∧ w.cell? a4 = some v4 ∧ w.cell? a5 = some v5 ∧ w.cell? a6 = some v6) (hn : a1.block ≠ q.block ∧ a2.block ≠ q.block ∧ a3.block ≠ q.block ∧ a4.block ≠ q.block ∧ a5.block ≠ q.block ∧ a6.block ≠ q.block) : (w.setCell q x).cell? a1 = some v1 ∧ (w.setCell q x).cell? a2 = some v2 ∧ (w.setCell q x).cell? a3 = some v3 ∧ (w.setCell q x).cell? a4 = some v4 ∧ (w.setCell q x).cell? a5 = some v5 ∧ (w.setCell q x).cell? a6 = some v6 :=
  ⟨cell_st (h.1) hn.1, cell_st (h.2.1) hn.2.1, cell_st (h.2.2.1) hn.2.2.1, cell_st (h.2.2.2.1) hn.2.2.2.1, cell_st (h.2.2.2.2.1) hn.2.2.2.2.1, cell_st (h.2.2.2.2.2) hn.2.2.2.2.2⟩
theorem bel8 {w : World} (o1 o2 o3 o4 o5 o6 o7 o8 : Obj) : Below w.heap.size w ((((((((w.alloc o1).alloc o2).alloc o3).alloc o4).alloc o5).alloc o6).alloc o7).alloc o8) := by
  repeat (first | with_reducible exact Below.refl _ _ | (refine Below.alloc ?_ ?_ _; rotate_left; focus (first | (simp; done) | (simp; omega) | omega)))
theorem al_cell {W : World} {a b : Value} {t : TypeId} {n j : Nat} {v : Value} (hn : W.heap.size = n) (hv : [a, b][j]? = some v) : (W.alloc (.cells #[a, b] t)).cell? ⟨n, j, none⟩ = some v := by
  subst hn
  exact (Box.new W [a, b] t).cell j v hv
set_option maxHeartbeats 20000000 in
set_option maxRecDepth 20000 in
theorem sound_c {w0 : World} {wb qb : Nat} {g : PgP} {u : PgV} {pl : List (Option St)} (i : Nat) (hi : i < g.C.length) (hl : pl.length = g.C.length) (hn : g.C.length ≤ 16384) (hh : g.h ≤ 4096) (ho : PgOk g) (hp : PIn g pl) (ht : TabAt w0) (w : World) (h : Wa w0 w wb qb g u pl) : Calls Tryd.prog 27 #[.pointer (some ⟨wb, 0, none⟩), .int .i64 (i : Nat)] w (WaP (stepR g i pl) w0 wb qb g u) := by
  have H := chid h
  have z12 := h.box.cell 12 _ rfl
  have z11 := h.box.cell 11 _ rfl
  have zl := h.box.lt
  have hpi : i < pl.length := by rw [hl]; exact hi
  have hC := RowsK.next h.rd.c h.bel
  obtain ⟨cb, coff, ccap, hv, hc1, hc2, hcl, hx⟩ := RowsK.open hC (by omega)
  have x0 := hx i hi 0 _ rfl
  have x1 := hx i hi 1 _ rfl
  rw [Nat.add_zero] at x0
  have hgd : g.C.getD i in0 = g.C[i] := by simp [List.getD, hi]
  have hox := ho.C _ (List.getElem_mem hi)
  rw [hv] at z11
  obtain ⟨Q, hQ⟩ : ∃ Q, Hid (Q = stepR g i pl) := ⟨_, chid rfl⟩
  rw [← hQ.out]
  have HQ := chid hQ.out
  unfold stepR at HQ
  rw [hgd] at HQ x0 x1
  generalize g.C[i] = x at *
  obtain ⟨op, a⟩ := x
  simp only at HQ x0 x1 hox
  have hat : pl[i]? = some pl[i] := List.getElem?_eq_getElem hpi
  have hpd : pl.getD i none = pl[i] := by simp [List.getD, hpi]
  rw [hpd] at HQ
  have hi' : (i : Int) < (g.C.length : Int) := by omega
  have hi2 : (i : Int) < (pl.length : Int) := by omega
  clear hx hv hC hgd hpd hQ
  have HTb := chid (ht.next h.bel)
  obtain ⟨p0, p1, p2, hpo⟩ : ∃ (p0 : Bool) (p1 p2 : Int), Hid (pcL pl[i] = [.bool p0, .int .i64 p1, .int .i64 p2]) := by cases pl[i] <;> exact ⟨_, _, _, chid rfl⟩
  have y0 := h.cells i _ hat 0 (.bool p0) (by rw [hpo.out]; rfl)
  have y1 := h.cells i _ hat 1 (.int .i64 p1) (by rw [hpo.out]; rfl)
  have y2 := h.cells i _ hat 2 (.int .i64 p2) (by rw [hpo.out]; rfl)
  rw [Nat.add_zero] at y0
  have ql := h.pls.lt
  clear h
  go_enter Tryd.func27, Tryd.ntmps27
  go_upto_region 1 with fail
  go_cut [5, 6] (fun s5 s6 wc => ∃ b5 b6 : Nat, s5 = .pointer (some ⟨b5, 0, none⟩) ∧ s6 = .pointer (some ⟨b6, 0, none⟩) ∧ Hid (Box wc b5 [.bool p0, .int .i64 p1, .int .i64 p2]) ∧ Hid (Box wc b6 [.int .i64 op, .int .i64 a]) ∧ Hid (Below w.heap.size w wc))
  case first =>
    go_region_held3 (fun w' => w'.cell? ⟨wb, 12, none⟩ = some (.slice (some ⟨qb, 0, none⟩) pl.length pl.length) ∧ w'.cell? ⟨wb, 11, none⟩ = some (.slice (some ⟨cb, coff, none⟩) g.C.length ccap) ∧ w'.cell? ⟨qb, i * 3, none⟩ = some (.bool p0) ∧ w'.cell? ⟨qb, i * 3 + 1, none⟩ = some (.int .i64 p1) ∧ w'.cell? ⟨qb, i * 3 + 2, none⟩ = some (.int .i64 p2) ∧ w'.cell? ⟨cb, coff + i * 2, none⟩ = some (.int .i64 op) ∧ w'.cell? ⟨cb, coff + i * 2 + 1, none⟩ = some (.int .i64 a)) (simp [go_sem, *]) (fail)
    all_goals go_wp2_with fail
    all_goals go_meet
    · obtain ⟨k1, k2, k3⟩ := two_boxes w 67 49 [.bool p0, .int .i64 p1, .int .i64 p2] [.int .i64 op, .int .i64 a]
      exact ⟨_, _, rfl, rfl, chid (k1.next (Below.refl _ _).drew), chid (k2.next (Below.refl _ _).drew), chid k3.drew⟩
    · obtain ⟨k1, k2, k3⟩ := two_boxes w 49 67 [.int .i64 op, .int .i64 a] [.bool p0, .int .i64 p1, .int .i64 p2]
      exact ⟨_, _, rfl, rfl, chid (k2.next (Below.refl _ _).drew), chid (k1.next (Below.refl _ _).drew), chid k3.drew⟩
  case rest =>
    obtain ⟨b5, b6, rfl, rfl, HB5, HB6, HBe⟩ := hcut
    have HW := chid (H.out.next HBe.out)
    have HT := chid (HTb.out.next HBe.out)
    clear z12 z11 zl x0 x1 y0 y1 y2 hcl ql H HTb HBe
    have q0 := HB6.out.cell 0 _ rfl
    have q0l := HB6.out.lt
    have HC := chid (rowOf_c op wc HT.out)
    have HNo : Hid (∀ w', Q = none → Below w0.heap.size w0 w' → WaP Q w0 wb qb g u (.returned (.bool false)) w') := chid (fun w' hq hb => by rw [hq]; exact ⟨hb, rfl⟩)
    have HOk : Hid (∀ e w', WaP (leadsR g.h [] pl) w0 wb qb g u e w' → WaP (leadsR g.h [] pl) w0 wb qb g u e w') := chid (fun _ _ h => h)
    clear HOk
    go_wp2_with fail
    refine Calls.mono HC.out ?_
    rintro e w2 ⟨rfl, b2⟩
    have HW2 := chid (HW.out.next b2)
    have HB5 := HB5.out.next b2
    have HB6 := HB6.out.next b2
    have x5 := HB5.cell 0 _ rfl
    have x6 := HB5.cell 1 _ rfl
    have x7 := HB5.cell 2 _ rfl
    have x8 := HB6.cell 0 _ rfl
    have x9 := HB6.cell 1 _ rfl
    have xl5 := HB5.lt
    have xl6 := HB6.lt
    have HB5 := chid HB5
    have HB6 := chid HB6
    clear HC q0 q0l HW b2 HT
    cases hO : pl[i] with
    | none =>
      rw [hO] at HQ hpo
      have hp0 : p0 = false := by have := hpo.out; simp [pcL] at this; exact this.1
      subst hp0
      have HE : Hid (Q = none) := chid HQ.out
      cases hr : rowF op with
      | none =>
        unfold roP
        go_wp2_with fail
        go_ret
        exact HNo.out _ HE.out ((HW2.out.next (bel_alloc _ _)).bel)
      | some r =>
        unfold roP
        go_wp2_with fail
        go_ret
        exact HNo.out _ HE.out ((HW2.out.next (bel_alloc _ _)).bel)
    | some s =>
      rw [hO] at HQ hpo
      have hp0 : p0 = true ∧ p1 = s.1 ∧ p2 = s.2 := by have := hpo.out; simp [pcL] at this; first | exact ⟨this.1.symm, this.2.1.symm, this.2.2.symm⟩ | exact ⟨this.1, this.2.1.symm, this.2.2.symm⟩ | exact ⟨this.1, this.2.1, this.2.2⟩
      obtain ⟨rfl, rfl, rfl⟩ := hp0
      have hs := hp i s (by rw [← hO]; exact hat)
      cases hr : rowF op with
      | none =>
        have HE : Hid (Q = none) := chid (by rw [HQ.out]; simp only; rw [hr])
        unfold roP
        go_wp2_with fail
        go_ret
        exact HNo.out _ HE.out ((HW2.out.next (bel_alloc _ _)).bel)
      | some r =>
        obtain ⟨m1, m2, m3, m4, m5, m6, m7, m8, m9, m10⟩ := row_small hr
        have HQ1 : Hid (Q = if mayF g pl.length r.a i a && suitB r s.1 s.2 then leadsR g.h (waysR r i a s.1 s.2) pl else none) := chid (by rw [HQ.out]; simp only; rw [hr])
        obtain ⟨b7, hb7⟩ : ∃ x, Hid (x = w2.heap.size) := ⟨_, chid rfl⟩
        obtain ⟨w3, hw3⟩ : ∃ x, Hid (x = w2.alloc (.cells (rwL r).toArray 99)) := ⟨_, chid rfl⟩
        have al := bel_alloc w2 (.cells (rwL r).toArray 99)
        have HR := Box.new w2 (rwL r) 99
        rw [← hw3.out] at al HR
        rw [← hb7.out] at HR
        have HW3 := chid (HW2.out.next al)
        have HB53 := chid (HB5.out.next al)
        have HB63 := chid (HB6.out.next al)
        have HR := chid HR
        have HM := chid (mayBe_c r.a i a hox.2.1 hox.2.2 w3 HW3.out)
        have hrF := chid hr
        clear HQ hr al HW2 HB5 HB6
        unfold roP
        go_wp2_with fail
        rw [← hw3.out, ← hb7.out]
        refine Calls.mono HM.out ?_
        rintro e w3' ⟨rfl, hw⟩
        subst hw
        clear x5 x6 x7 x8 x9 xl5 xl6 HM
        have x5 := HB53.out.cell 0 _ rfl
        have x6 := HB53.out.cell 1 _ rfl
        have x7 := HB53.out.cell 2 _ rfl
        have x8 := HB63.out.cell 0 _ rfl
        have x9 := HB63.out.cell 1 _ rfl
        have xl5 := HB53.out.lt
        have xl6 := HB63.out.lt
        have r0 := HR.out.cell 0 _ rfl
        have r1 := HR.out.cell 1 _ rfl
        have r2 := HR.out.cell 2 _ rfl
        have r3 := HR.out.cell 3 _ rfl
        have r4 := HR.out.cell 4 _ rfl
        have r5 := HR.out.cell 5 _ rfl
        have r6 := HR.out.cell 6 _ rfl
        have r7 := HR.out.cell 7 _ rfl
        have r8 := HR.out.cell 8 _ rfl
        have r9 := HR.out.cell 9 _ rfl
        have rl := HR.out.lt
        cases hm : mayF g pl.length r.a i a with
        | false =>
          have HE : Hid (Q = none) := chid (by rw [HQ1.out, hm]; rfl)
          clear hm
          go_wp2_with fail
          go_ret
          exact HNo.out _ HE.out HW3.out.bel
        | true =>
          have HM0 : Hid (r.d = 1 ∨ r.d = 2 → 0 ≤ a.tmod 16384) := chid (may_tmod hrF.out hm)
          rw [hm] at HQ1
          clear hm
          have HS := chid (suits_c r s w3')
          go_wp2_with fail
          refine Calls.mono HS.out ?_
          rintro e w4 ⟨rfl, b4⟩
          have HW4 := chid (HW3.out.next b4)
          have HB54 := chid (HB53.out.next b4)
          have HB64 := chid (HB63.out.next b4)
          have HR4 := chid (HR.out.next b4)
          clear x5 x6 x7 x8 x9 xl5 xl6 r0 r1 r2 r3 r4 r5 r6 r7 r8 r9 rl HS HW3 HB53 HB63 HR b4
          have x5 := HB54.out.cell 0 _ rfl
          have x6 := HB54.out.cell 1 _ rfl
          have x7 := HB54.out.cell 2 _ rfl
          have x8 := HB64.out.cell 0 _ rfl
          have x9 := HB64.out.cell 1 _ rfl
          have xl5 := HB54.out.lt
          have xl6 := HB64.out.lt
          have r0 := HR4.out.cell 0 _ rfl
          have r1 := HR4.out.cell 1 _ rfl
          have r2 := HR4.out.cell 2 _ rfl
          have r3 := HR4.out.cell 3 _ rfl
          have r4 := HR4.out.cell 4 _ rfl
          have r5 := HR4.out.cell 5 _ rfl
          have r6 := HR4.out.cell 6 _ rfl
          have r7 := HR4.out.cell 7 _ rfl
          have r8 := HR4.out.cell 8 _ rfl
          have r9 := HR4.out.cell 9 _ rfl
          have rl := HR4.out.lt
          cases hu : suitB r s.1 s.2 with
          | false =>
            have HE : Hid (Q = none) := chid (by rw [HQ1.out, hu]; rfl)
            clear hu
            go_wp2_with fail
            go_ret
            exact HNo.out _ HE.out HW4.out.bel
          | true =>
            have HQ2 : Hid (Q = leadsR g.h (waysR r i a s.1 s.2) pl) := chid (by rw [HQ1.out, hu]; rfl)
            clear hu HQ1
            have hw1 : IntKind.i64.wrap (s.1 + r.x1) = s.1 + r.x1 := by rw [IntKind.wrap_i64]; omega
            have hw2 : IntKind.i64.wrap (s.2 + r.x2) = s.2 + r.x2 := by rw [IntKind.wrap_i64]; omega
            have hw3 : IntKind.i64.wrap (s.1 + r.t1) = s.1 + r.t1 := by rw [IntKind.wrap_i64]; omega
            have hw4 : IntKind.i64.wrap (s.2 + r.t2) = s.2 + r.t2 := by rw [IntKind.wrap_i64]; omega
            have HPu := chid (fun (y1 y2 : Int) (W : World) (q1 : IntKind.i64.wrap (s.1 + y1) = s.1 + y1) (q2 : IntKind.i64.wrap (s.2 + y2) = s.2 + y2) => plus_c s (y1, y2) q1 q2 W)
            have HS6 : w4.cell? ⟨b5, 1, none⟩ = some (.int .i64 s.1) ∧ w4.cell? ⟨b5, 2, none⟩ = some (.int .i64 s.2) ∧ w4.cell? ⟨b7, 6, none⟩ = some (.int .i64 r.x1) ∧ w4.cell? ⟨b7, 7, none⟩ = some (.int .i64 r.x2) ∧ w4.cell? ⟨b7, 8, none⟩ = some (.int .i64 r.t1) ∧ w4.cell? ⟨b7, 9, none⟩ = some (.int .i64 r.t2) := ⟨x6, x7, r6, r7, r8, r9⟩
            go_upto_region 5 with fail
            go_cut [9, 10] (fun s9 s10 wd => ∃ b9 b10 : Nat, s9 = .pointer (some ⟨b9, 0, none⟩) ∧ s10 = .pointer (some ⟨b10, 0, none⟩) ∧ wd.cell? ⟨b9, 0, none⟩ = some (.int .i64 (s.1 + r.x1)) ∧ wd.cell? ⟨b9, 1, none⟩ = some (.int .i64 (s.2 + r.x2)) ∧ wd.cell? ⟨b10, 0, none⟩ = some (.int .i64 (s.1 + r.t1)) ∧ wd.cell? ⟨b10, 1, none⟩ = some (.int .i64 (s.2 + r.t2)) ∧ w4.heap.size ≤ b9 ∧ w4.heap.size ≤ b10 ∧ b9 < wd.heap.size ∧ b10 < wd.heap.size ∧ Hid (Below w4.heap.size w4 wd))
            case first =>
              go_region_held3 (fun w' => w'.cell? ⟨b5, 1, none⟩ = some (.int .i64 s.1) ∧ w'.cell? ⟨b5, 2, none⟩ = some (.int .i64 s.2) ∧ w'.cell? ⟨b7, 6, none⟩ = some (.int .i64 r.x1) ∧ w'.cell? ⟨b7, 7, none⟩ = some (.int .i64 r.x2) ∧ w'.cell? ⟨b7, 8, none⟩ = some (.int .i64 r.t1) ∧ w'.cell? ⟨b7, 9, none⟩ = some (.int .i64 r.t2)) (repeat (first | with_reducible assumption | with_reducible refine s6_al ?_ | with_reducible refine s6_dr ?_ | (with_reducible refine s6_st ?_ ?_; rotate_left; (refine ⟨?_, ?_, ?_, ?_, ?_, ?_⟩ <;> (simp; omega))))) (first | (go_at_call 43; refine Calls.mono (HPu.out _ _ _ (by assumption) (by assumption)) ?_; rintro e w5 ⟨rfl, rfl⟩))
              all_goals go_wp2_with fail
              all_goals go_meet
              all_goals refine ⟨_, _, rfl, rfl, ?_, ?_, ?_, ?_, ?_, ?_, ?_, ?_, chid ?_⟩
              all_goals first
                | (refine cell_dr ?_; (repeat (first | (refine al_cell ?_ ?_; (focus (simp; done)); rfl) | refine cell_al ?_)); done)
                | exact Below.drew (bel8 _ _ _ _ _ _ _ _)
                | (simp; done)
                | omega
                | (simp; omega)
            case rest =>
              obtain ⟨b9, b10, rfl, rfl, v0, v1, v2, v3, g9, g10, l9, l10, HBd⟩ := hcut
              have HWd := chid (HW4.out.next HBd.out)
              have HB6d := HB64.out.next HBd.out
              have HRd := HR4.out.next HBd.out
              have hq9 : b9 ≠ qb := by have := HW4.out.pls.lt; omega
              have ha0 : Hid (r.d = 1 ∨ r.d = 2 → 0 ≤ a.tmod 16384) := chid HM0.out
              clear x5 x6 x7 x8 x9 xl5 xl6 r0 r1 r2 r3 r4 r5 r6 r7 r8 r9 rl HPu HS6 HBd HW4
              have x9 := HB6d.cell 1 _ rfl
              have xl6 := HB6d.lt
              have r5 := HRd.cell 5 _ rfl
              have rl := HRd.lt
              have hwi : IntKind.i64.wrap ((i : Int) + 1) = (i : Int) + 1 := by rw [IntKind.wrap_i64]; omega
              have ht0 : (i : Nat) < pl.length := hpi
              by_cases d0 : r.d = 0
              · have HQ3 : Hid (Q = leadR g.h pl ((i : Int) + 1, s.1 + r.x1, s.2 + r.x2)) := chid (by rw [HQ2.out]; unfold waysR; rw [if_pos d0]; unfold leadsR; cases leadR g.h pl ((i : Int) + 1, s.1 + r.x1, s.2 + r.x2) <;> rfl)
                have HL := chid (lead_c ((i : Int) + 1) (s.1 + r.x1, s.2 + r.x2) (by omega) wc HWd.out)
                rw [← HQ3.out] at HL
                go_wp2_with fail
                refine Calls.mono HL.out ?_
                rintro e w5 ⟨h5, -⟩
                have HF := chid h5
                clear h5 HL HQ3
                cases Q with
                | none =>
                  obtain ⟨f1, rfl⟩ := HF.out
                  have HF1 := chid f1
                  go_wp2_with fail
                  go_ret
                  exact ⟨HF1.out, rfl⟩
                | some pl' =>
                  obtain ⟨f1, rfl, f2⟩ := HF.out
                  have HF1 := chid f1
                  have HF2 := chid f2
                  go_wp2_with fail
                  go_ret
                  exact ⟨HF1.out, rfl, HF2.out⟩
              have HTt := chid (fun W => target_d a W)
              have HWe := chid (HWd.out.next (Below.refl _ _).drew)
              by_cases d1 : r.d = 1
              · have HQ3 : Hid (Q = leadR g.h pl (a.tmod 16384, s.1 + r.t1, s.2 + r.t2)) := chid (by rw [HQ2.out]; unfold waysR; rw [if_neg d0, if_pos d1]; unfold leadsR; cases leadR g.h pl (a.tmod 16384, s.1 + r.t1, s.2 + r.t2) <;> rfl)
                have hL := lead_c (a.tmod 16384) (s.1 + r.t1, s.2 + r.t2) (ha0.out (.inl d1)) wc.drew HWe.out
                cases hq : leadR g.h pl (a.tmod 16384, s.1 + r.t1, s.2 + r.t2) with
                | none =>
                  rw [hq] at hL HQ3
                  have HL := chid (lead_n hL)
                  clear hL hq
                  go_wp2_with fail
                  first | go_region_with (first | (go_at_call 45; refine Calls.mono (HTt.out _) ?_; rintro e w5 ⟨u5, rfl, rfl, rfl⟩) | (go_at_call 44; refine Calls.mono HL.out ?_; rintro e w6 ⟨u6, rfl, rfl, f1⟩; have HF1 := chid f1; clear f1)) | fail "x"
                  all_goals go_wp2_with fail
                  all_goals go_ret
                  all_goals exact HNo.out _ HQ3.out HF1.out
                | some pl' =>
                  rw [hq] at hL HQ3
                  have HL := chid (lead_s hL)
                  clear hL hq
                  go_wp2_with fail
                  first | go_region_with (first | (go_at_call 45; refine Calls.mono (HTt.out _) ?_; rintro e w5 ⟨u5, rfl, rfl, rfl⟩) | (go_at_call 44; refine Calls.mono HL.out ?_; rintro e w6 ⟨u6, rfl, rfl, f1, f2⟩; have HF1 := chid f1; clear f1 f2)) | fail "x"
                  all_goals go_wp2_with fail
                  all_goals go_ret
                  all_goals (rw [HQ3.out]; exact ⟨HF1.out.bel, rfl, HF1.out⟩)
              by_cases d2 : r.d = 2
              · have HQ3 : Hid (Q = (leadR g.h pl (a.tmod 16384, s.1 + r.t1, s.2 + r.t2)).bind (fun p => leadR g.h p ((i : Int) + 1, s.1 + r.x1, s.2 + r.x2))) := chid (by
                  rw [HQ2.out]
                  unfold waysR
                  rw [if_neg d0, if_neg d1, if_pos d2]
                  unfold leadsR
                  cases leadR g.h pl (a.tmod 16384, s.1 + r.t1, s.2 + r.t2) with
                  | none => rfl
                  | some p =>
                    show leadsR g.h [((i : Int) + 1, s.1 + r.x1, s.2 + r.x2)] p = leadR g.h p ((i : Int) + 1, s.1 + r.x1, s.2 + r.x2)
                    unfold leadsR
                    cases leadR g.h p ((i : Int) + 1, s.1 + r.x1, s.2 + r.x2) <;> rfl)
                have hL := lead_c (a.tmod 16384) (s.1 + r.t1, s.2 + r.t2) (ha0.out (.inr d2)) wc.drew HWe.out
                cases hq : leadR g.h pl (a.tmod 16384, s.1 + r.t1, s.2 + r.t2) with
                | none =>
                  rw [hq] at hL HQ3
                  have HL := chid (lead_n hL)
                  have HE : Hid (Q = none) := chid HQ3.out
                  clear hL hq HQ3
                  go_wp2_with fail
                  first | go_region_law (first | (go_simp; go_at_call 45; refine Calls.mono (HTt.out _) ?_; rintro e w5 ⟨u5, rfl, rfl, rfl⟩) | (go_simp; go_at_call 44; refine Calls.mono HL.out ?_; rintro e w6 ⟨u6, rfl, rfl, f1⟩; have HF1 := chid f1; clear f1)) | fail "x"
                  all_goals go_wp2_with fail
                  all_goals go_ret
                  all_goals exact HNo.out _ HE.out HF1.out
                | some p1 =>
                  rw [hq] at hL HQ3
                  have HL := chid (lead_s hL)
                  have HE : Hid (Q = leadR g.h p1 ((i : Int) + 1, s.1 + r.x1, s.2 + r.x2)) := chid HQ3.out
                  have hL2 := fun W (h : Wa w0 W wb qb g u p1) => lead_c ((i : Int) + 1) (s.1 + r.x1, s.2 + r.x2) (by omega) W h
                  clear hL hq HQ3
                  cases hq2 : leadR g.h p1 ((i : Int) + 1, s.1 + r.x1, s.2 + r.x2) with
                  | none =>
                    rw [hq2] at HE hL2
                    have HL2 := chid (fun W h => lead_n (hL2 W h))
                    clear hL2 hq2
                    go_wp2_with fail
                    first | go_region_with (first | (go_at_call 45; refine Calls.mono (HTt.out _) ?_; rintro e w5 ⟨u5, rfl, rfl, rfl⟩) | (go_at_call 44; refine Calls.mono (HL2.out w6 HF1.out) ?_; rintro e w7 ⟨u7, rfl, rfl, f7⟩; have HG1 := chid f7; clear f7) | (go_at_call 44; refine Calls.mono HL.out ?_; rintro e w6 ⟨u6, rfl, rfl, f1, f2⟩; have HF1 := chid f1; have c90 := (f2.cell (p := ⟨b9, 0, none⟩) l9 (by simp; exact hq9)).trans v0; have c91 := (f2.cell (p := ⟨b9, 1, none⟩) l9 (by simp; exact hq9)).trans v1; have c9l := Nat.lt_of_lt_of_le l9 f2.size; clear f1 f2)) | fail "x"
                    all_goals go_wp2_with fail
                    all_goals go_ret
                    all_goals exact HNo.out _ HE.out HG1.out
                  | some p2 =>
                    rw [hq2] at HE hL2
                    have HL2 := chid (fun W h => lead_s (hL2 W h))
                    clear hL2 hq2
                    go_wp2_with fail
                    first | go_region_with (first | (go_at_call 45; refine Calls.mono (HTt.out _) ?_; rintro e w5 ⟨u5, rfl, rfl, rfl⟩) | (go_at_call 44; refine Calls.mono (HL2.out w6 HF1.out) ?_; rintro e w7 ⟨u7, rfl, rfl, f7, f8⟩; have HG1 := chid f7; clear f7 f8) | (go_at_call 44; refine Calls.mono HL.out ?_; rintro e w6 ⟨u6, rfl, rfl, f1, f2⟩; have HF1 := chid f1; have c90 := (f2.cell (p := ⟨b9, 0, none⟩) l9 (by simp; exact hq9)).trans v0; have c91 := (f2.cell (p := ⟨b9, 1, none⟩) l9 (by simp; exact hq9)).trans v1; have c9l := Nat.lt_of_lt_of_le l9 f2.size; clear f1 f2)) | fail "x"
                    all_goals go_wp2_with fail
                    all_goals go_ret
                    all_goals (rw [HE.out]; exact ⟨HG1.out.bel, rfl, HG1.out⟩)
              have d3 : r.d = 3 := by omega
              have HQ3 : Hid (Q = some pl) := chid (by rw [HQ2.out]; unfold waysR; rw [if_neg d0, if_neg d1, if_neg d2]; rfl)
              go_wp2_with fail
              go_ret
              rw [HQ3.out]
              exact ⟨HWd.out.bel, rfl, HWd.out⟩
end Go.Proofs.YtigldebdljfnbaaDoor

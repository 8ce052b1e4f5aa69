/- The document's reader in memory: the items of metrics. -/
import Derived.Test.YtecdfnpbcabdnaaGreatDoorPsC
namespace Go.Proofs.YtecdfnpbcabdnaaGreatDoor
open Go.RowKit Go.Lib

set_option maxHeartbeats 16000000 in
set_option maxRecDepth 20000 in
theorem qItem_metricU {z rb tb : Nat} {LL : List Tk} {c : Int} {o : Nat} (hz : z ≤ 9223372036854775807) {S : Sr} (y : isR k_metric S = true) (u : (takeR c 1 (adv S)).2.good = true) (k8 : (hdT (takeR c 1 (adv S)).2.L).kind = 8) (w : World) (hr : Rr z w rb tb LL c S o) :
    Calls Tryz.prog 18 #[.pointer (some ⟨rb, 0, none⟩)] w (IqP z w rb tb LL c o ((metricR c (hdT S.L).at_ (adv S)).1, mustR c k_sem (metricR c (hdT S.L).at_ (adv S)).2)) := by
  obtain ⟨R, hR⟩ : ∃ R, Hid (R = ((metricR c (hdT S.L).at_ (adv S)).1, mustR c k_sem (metricR c (hdT S.L).at_ (adv S)).2)) := ⟨_, rfl⟩
  rw [← hR.out]
  have hP : Hid (∀ w' Y i vx vy S', Y = (itC i vx vy).toArray → Turn [rb] w w' → Rr z w' rb tb LL c S' o → ItB w.heap.size z w' i vx vy → R = (i, S') → IqP z w rb tb LL c o R (.returned (.agg Y)) w') := fun w' Y i vx vy S' h0 h1 h2 h3 h4 => ⟨h1, ⟨vx, vy, by rw [h4, h0], by rw [h4]; exact h3⟩, by rw [h4]; exact h2⟩
  generalize IqP z w rb tb LL c o R = Post at *
  have hl0 := hr.lts
  have hat := hr.tl.ok.a
  have hz0 := hid2 hz
  have fl1 := fld1
  have fl2 := fld2
  obtain ⟨m, hm19⟩ : ∃ m : Nat, Hid (m = 19) := ⟨_, rfl⟩
  have zs : ∀ w, (sizeOf 53).run Tryz.prog w = .ok m w := by rw [hm19.out]; exact Tryz.sizeOf53
  have zm : (19 = m) = True := eq_true hm19.out.symm
  have R0 := hid2 (hr.next ((Below.refl _ _).alloc (Nat.le_refl _) (.cells zs19.toArray 53)))
  have R1 := hid2 hr
  obtain ⟨X, hX⟩ : ∃ X : Array Value, Hid (X = (itC (it0 0 ((hdT S.L).at_ : Int)) (.slice none 0 0) (.slice none 0 0)).toArray) := ⟨_, rfl⟩
  have stX := fun W => st_it W (X := X) (by rw [hX.out]; rfl) (by rw [hX.out]; kernel_rfl)
  unfold zeroI at stX
  have sX : X.size = 19 := by rw [hX.out]; rfl
  clear hr hz
  go_enter Tryz.func18, Tryz.ntmps18
  go_wp2_with fail
  refine Calls.mono (qAt_c _ R0.out) ?_
  rintro e w1 ⟨rfl, b1⟩
  have HC0 := hid2 (ImS.made R1.out b1 ((hdT S.L).at_ : Int))
  rw [← hX.out] at HC0
  clear b1 R0 R1
  go_wp2_with (refine wpList_it8 rfl _ rfl ((hdT S.L).at_ : Int) rfl X hX.out ?_)
  clear stX sX
  obtain ⟨g, hgg⟩ : ∃ g : Nat, Hid (g = w1.heap.size) := ⟨_, rfl⟩
  rw [← hgg.out] at HC0 ⊢
  generalize hW1 : w1.alloc _ = W1 at *
  clear hW1 hX hgg
  refine Calls.mono (qMay_c k_metric ⟨ba_neL [40] (by decide), ba_neL [123] (by decide), ba_neL [41] (by decide), ba_neL [125] (by decide)⟩ _ HC0.out.re) ?_
  rintro e w11 ⟨rfl, t2, r2⟩
  have HC1 := hid2 (HC0.out.turn t2 r2)
  clear t2 r2 HC0
  rw [y]
  rw [may_adv y] at HC1
  have c0 := HC1.out.lt.cell 0 _ rfl
  have f0 := HC1.out.lt.free 0 (by simp)
  have cl := HC1.out.lt.lt
  have HC2 := hid2 (HC1.out.set 0 (.int .i64 1) ⟨1, ⟨#[]⟩, ⟨#[]⟩, 0, 0, 0, nilM, nilM, ((hdT S.L).at_ : Int)⟩ (by decide) rfl rfl rfl HC1.out.nm HC1.out.un)
  go_wp2_with fail
  clear cl c0 f0 HC1
  refine Calls.mono (qTake_c 1 (by decide) _ HC2.out.re) ?_
  rintro e w13 ⟨rfl, t2, r2⟩
  have Hk3 := hid2 (take_tk (c := c) (k := 1) HC2.out.re.tl)
  have HC3 := hid2 (HC2.out.turn t2 r2)
  clear t2 r2 HC2
  simp only [tkW]
  obtain ⟨tk3, htk3⟩ : ∃ tk, Hid (tk = (takeR c 1 (adv S)).1) := ⟨_, rfl⟩
  rw [← htk3.out] at Hk3 ⊢
  have c1 := HC3.out.lt.cell 1 _ rfl
  have f1 := HC3.out.lt.free 1 (by simp)
  have cl := HC3.out.lt.lt
  have HC4 := hid2 (HC3.out.set 1 (.string tk3.text) ⟨1, tk3.text, ⟨#[]⟩, 0, 0, 0, nilM, nilM, ((hdT S.L).at_ : Int)⟩ (by decide) rfl rfl rfl Hk3.out.1 HC3.out.un)
  have hgr : g ≠ rb ∧ g ≠ tb := by have := HC3.out.gg; have := HC3.out.rl; omega
  obtain ⟨hg1, hg2⟩ := hgr
  have hg3 : ¬ rb = g := fun h => hg1 h.symm
  have hg4 : ¬ tb = g := fun h => hg2 h.symm
  have hgood := HC3.out.re.good
  rw [u] at hgood
  have hRp := HC3.out.re
  obtain ⟨off, cap, i, ov, h⟩ := hRp
  obtain ⟨u0, u1, u2, u3⟩ := h.hd
  obtain ⟨r0, r1, r2, r3, r4, r5, q0, q1, q2, q3, q4, q5⟩ := h.box.six
  have hl := h.box.lt
  have htl := h.lt
  have hil : (i : Int) < (LL.length : Int) := by have := h.il; omega
  have hmx := h.mx
  have hle := h.le
  generalize hS9e : (takeR c 1 (adv S)).2 = S9 at *
  have hS9 : Hid (S9 = (takeR c 1 (adv S)).2) := hS9e.symm
  clear hS9e
  generalize ht9 : hdT S9.L = t9 at *
  generalize hn9 : LL.length = n9 at *
  generalize erW S9.er = wh at *
  have e0 : erI S9.er = 0 := by simpa using hgood.symm
  rw [e0] at r4
  clear hgood e0
  rw [k8] at u0
  go_wp2_with fail
  go_quiet (fail)
  have k1 : Below (w13.setCell ⟨g, 1, none⟩ (.string tk3.text)).heap.size (w13.setCell ⟨g, 1, none⟩ (.string tk3.text)) ((w13.setCell ⟨g, 1, none⟩ (.string tk3.text)).drewN nq) := below_drewN (Below.refl _ _) nq
  have HC5 := hid2 (HC4.out.next k1)
  clear u0 u1 u2 u3 r0 r1 r2 r3 r4 r5 q0 q1 q2 q3 q4 q5 hl htl hil hmx hle h k1 HC4 HC3 c1 f1 cl
  generalize hWW : (w13.setCell ⟨g, 1, none⟩ (.string tk3.text)).drewN nq = W5 at *
  clear hWW
  have hRp := HC5.out.re
  obtain ⟨off, cap, i, ov, h⟩ := hRp
  obtain ⟨u0, u1, u2, u3⟩ := h.hd
  obtain ⟨r0, r1, r2, r3, r4, r5, q0, q1, q2, q3, q4, q5⟩ := h.box.six
  have hl := h.box.lt
  have htl := h.lt
  have hil : (i : Int) < (n9 : Int) := by have := h.il; omega
  have hmx := h.mx
  have hle := h.le
  have hux := h.tl.ok.x
  have HXs := hid2 h
  rw [ht9] at u0 u1 u2 u3 hux
  rw [hn9] at r0 hle
  have c2 := HC5.out.lt.cell 2 _ rfl
  have f2 := HC5.out.lt.free 2 (by simp)
  have cl := HC5.out.lt.lt
  generalize erI S9.er = er9 at *
  generalize erW S9.er = wh at *
  clear h
  go_wp2_with fail
  go_region_held3 (fun w' => w'.cell? ⟨rb, 0, none⟩ = some (.slice (some ⟨tb, off, none⟩) n9 cap) ∧ w'.cell? ⟨rb, 1, none⟩ = some (.int .i64 (i : Nat)) ∧ w'.cell? ⟨tb, off + i * 4 + 1, none⟩ = some (.string t9.text)) (simp [go_sem, *]) (fail)
  rename_i hh
  clear hh
  have hX2 := HXs.out.turn (turn_set W5 g 2 (.string t9.text)) (by simp; omega) (by simp; omega)
  have r6 : Rr z ((W5.setCell ⟨g, 2, none⟩ (.string t9.text)).setCell ⟨rb, 1, none⟩ (.int .i64 ((i : Int) + 1))) rb tb LL c (adv S9) o := ⟨off, cap, i + 1, ov, hX2.step (hX2.box.set 1 (by simp) _) (turn_set _ _ _ _) (by rw [ht9, k8]; decide) hX2.op hX2.oi hX2.dp⟩
  have HC6 := hid2 (((HC5.out.set 2 (.string t9.text) ⟨1, tk3.text, t9.text, 0, 0, 0, nilM, nilM, ((hdT S.L).at_ : Int)⟩ (by decide) rfl rfl rfl HC5.out.nm hux).turn (turn_set _ _ _ _) r6).next (Below.refl _ _).drew)
  clear hX2 r6
  go_wp2_with fail
  clear u0 u1 u2 u3 r0 r1 r2 r3 r4 r5 q0 q1 q2 q3 q4 q5 hl htl hil hmx hle c2 f2 cl HC5 HXs
  refine Calls.mono (qMust_c k_sem ⟨ba_neL [40] (by decide), ba_neL [123] (by decide), ba_neL [41] (by decide), ba_neL [125] (by decide)⟩ _ HC6.out.re) ?_
  rintro e w17 ⟨rfl, t2, r2⟩
  have HC7 := hid2 (HC6.out.turn t2 r2)
  clear t2 r2 HC6
  obtain ⟨Y, hY⟩ : ∃ Y : Array Value, Hid (Y = (itC ⟨1, tk3.text, t9.text, 0, 0, 0, nilM, nilM, ((hdT S.L).at_ : Int)⟩ (.slice none 0 0) (.slice none 0 0)).toArray) := ⟨_, rfl⟩
  have sY : Y.size = 19 := by rw [hY.out]; rfl
  have ldY := ld_row (X := Y) HC7.out.lt (by rw [hY.out]) (n := m) hm19.out
  have one0 : Y.all (·.oneCell') = true := by rw [hY.out]; exact HC7.out.one
  have one : ∀ v ∈ Y.toList, v.oneCell' = true := fun v hv => Array.all_eq_true_iff_forall_mem.1 one0 v (by simpa using hv)
  have stY := st_at w.heap.size Y.toList 0 w17 _ HC7.out.rs (by simp [sY]) one
  have TF := hid2 (putRow_turn w.heap.size Y.toList 0 w17)
  have BF := putRow_whole HC7.out.rs (X := Y.toList) (by simp [sY])
  have ldF := ld_row (X := Y) BF rfl (n := m) (by simp [sY, hm19.out])
  have xl := HC7.out.lt.lt
  have pl := HC7.out.rs.lt
  have hgx := HC7.out.gg
  clear BF one one0
  generalize hWF : putRow w17 w.heap.size 0 Y.toList = WF at *
  clear hWF
  go_wp2_with fail
  refine bodyPost_ret (v := .agg Y) (by simp [results, Tryz.results18, go_sem, *]) rfl (hP.out _ Y ⟨1, tk3.text, t9.text, 0, 0, 0, nilM, nilM, ((hdT S.L).at_ : Int)⟩ (.slice none 0 0) (.slice none 0 0) (mustR c k_sem (adv S9)) hY.out ?_ ?_ (HC7.out.itb TF.out) (by rw [hR.out, htk3.out]; unfold metricR unitR; rw [← hS9.out, if_pos ⟨u, by rw [ht9]; exact k8⟩, ht9]))
  · exact HC7.out.tn.trans TF.out (fun i hi => .inr (by simp at hi; omega))
  · exact HC7.out.re.turn TF.out (by simp; omega) (by simp; omega)
set_option maxHeartbeats 16000000 in
set_option maxRecDepth 20000 in
theorem qItem_metricN {z rb tb : Nat} {LL : List Tk} {c : Int} {o : Nat} (hz : z ≤ 9223372036854775807) {S : Sr} (y : isR k_metric S = true) (u : (takeR c 1 (adv S)).2.good = true) (k8 : ¬ (hdT (takeR c 1 (adv S)).2.L).kind = 8) (w : World) (hr : Rr z w rb tb LL c S o) :
    Calls Tryz.prog 18 #[.pointer (some ⟨rb, 0, none⟩)] w (IqP z w rb tb LL c o ((metricR c (hdT S.L).at_ (adv S)).1, mustR c k_sem (metricR c (hdT S.L).at_ (adv S)).2)) := by
  obtain ⟨R, hR⟩ : ∃ R, Hid (R = ((metricR c (hdT S.L).at_ (adv S)).1, mustR c k_sem (metricR c (hdT S.L).at_ (adv S)).2)) := ⟨_, rfl⟩
  rw [← hR.out]
  have hP : Hid (∀ w' Y i vx vy S', Y = (itC i vx vy).toArray → Turn [rb] w w' → Rr z w' rb tb LL c S' o → ItB w.heap.size z w' i vx vy → R = (i, S') → IqP z w rb tb LL c o R (.returned (.agg Y)) w') := fun w' Y i vx vy S' h0 h1 h2 h3 h4 => ⟨h1, ⟨vx, vy, by rw [h4, h0], by rw [h4]; exact h3⟩, by rw [h4]; exact h2⟩
  generalize IqP z w rb tb LL c o R = Post at *
  have hl0 := hr.lts
  have hat := hr.tl.ok.a
  have hz0 := hid2 hz
  have fl1 := fld1
  have fl2 := fld2
  obtain ⟨m, hm19⟩ : ∃ m : Nat, Hid (m = 19) := ⟨_, rfl⟩
  have zs : ∀ w, (sizeOf 53).run Tryz.prog w = .ok m w := by rw [hm19.out]; exact Tryz.sizeOf53
  have zm : (19 = m) = True := eq_true hm19.out.symm
  have R0 := hid2 (hr.next ((Below.refl _ _).alloc (Nat.le_refl _) (.cells zs19.toArray 53)))
  have R1 := hid2 hr
  obtain ⟨X, hX⟩ : ∃ X : Array Value, Hid (X = (itC (it0 0 ((hdT S.L).at_ : Int)) (.slice none 0 0) (.slice none 0 0)).toArray) := ⟨_, rfl⟩
  have stX := fun W => st_it W (X := X) (by rw [hX.out]; rfl) (by rw [hX.out]; kernel_rfl)
  unfold zeroI at stX
  have sX : X.size = 19 := by rw [hX.out]; rfl
  clear hr hz
  go_enter Tryz.func18, Tryz.ntmps18
  go_wp2_with fail
  refine Calls.mono (qAt_c _ R0.out) ?_
  rintro e w1 ⟨rfl, b1⟩
  have HC0 := hid2 (ImS.made R1.out b1 ((hdT S.L).at_ : Int))
  rw [← hX.out] at HC0
  clear b1 R0 R1
  go_wp2_with (refine wpList_it8 rfl _ rfl ((hdT S.L).at_ : Int) rfl X hX.out ?_)
  clear stX sX
  obtain ⟨g, hgg⟩ : ∃ g : Nat, Hid (g = w1.heap.size) := ⟨_, rfl⟩
  rw [← hgg.out] at HC0 ⊢
  generalize hW1 : w1.alloc _ = W1 at *
  clear hW1 hX hgg
  refine Calls.mono (qMay_c k_metric ⟨ba_neL [40] (by decide), ba_neL [123] (by decide), ba_neL [41] (by decide), ba_neL [125] (by decide)⟩ _ HC0.out.re) ?_
  rintro e w11 ⟨rfl, t2, r2⟩
  have HC1 := hid2 (HC0.out.turn t2 r2)
  clear t2 r2 HC0
  rw [y]
  rw [may_adv y] at HC1
  have c0 := HC1.out.lt.cell 0 _ rfl
  have f0 := HC1.out.lt.free 0 (by simp)
  have cl := HC1.out.lt.lt
  have HC2 := hid2 (HC1.out.set 0 (.int .i64 1) ⟨1, ⟨#[]⟩, ⟨#[]⟩, 0, 0, 0, nilM, nilM, ((hdT S.L).at_ : Int)⟩ (by decide) rfl rfl rfl HC1.out.nm HC1.out.un)
  go_wp2_with fail
  clear cl c0 f0 HC1
  refine Calls.mono (qTake_c 1 (by decide) _ HC2.out.re) ?_
  rintro e w13 ⟨rfl, t2, r2⟩
  have Hk3 := hid2 (take_tk (c := c) (k := 1) HC2.out.re.tl)
  have HC3 := hid2 (HC2.out.turn t2 r2)
  clear t2 r2 HC2
  simp only [tkW]
  obtain ⟨tk3, htk3⟩ : ∃ tk, Hid (tk = (takeR c 1 (adv S)).1) := ⟨_, rfl⟩
  rw [← htk3.out] at Hk3 ⊢
  have c1 := HC3.out.lt.cell 1 _ rfl
  have f1 := HC3.out.lt.free 1 (by simp)
  have cl := HC3.out.lt.lt
  have HC4 := hid2 (HC3.out.set 1 (.string tk3.text) ⟨1, tk3.text, ⟨#[]⟩, 0, 0, 0, nilM, nilM, ((hdT S.L).at_ : Int)⟩ (by decide) rfl rfl rfl Hk3.out.1 HC3.out.un)
  have hgr : g ≠ rb ∧ g ≠ tb := by have := HC3.out.gg; have := HC3.out.rl; omega
  obtain ⟨hg1, hg2⟩ := hgr
  have hg3 : ¬ rb = g := fun h => hg1 h.symm
  have hg4 : ¬ tb = g := fun h => hg2 h.symm
  have hgood := HC3.out.re.good
  rw [u] at hgood
  have hRp := HC3.out.re
  obtain ⟨off, cap, i, ov, h⟩ := hRp
  obtain ⟨u0, u1, u2, u3⟩ := h.hd
  obtain ⟨r0, r1, r2, r3, r4, r5, q0, q1, q2, q3, q4, q5⟩ := h.box.six
  have hl := h.box.lt
  have htl := h.lt
  have hil : (i : Int) < (LL.length : Int) := by have := h.il; omega
  have hmx := h.mx
  have hle := h.le
  clear h
  generalize hS9e : (takeR c 1 (adv S)).2 = S9 at *
  have hS9 : Hid (S9 = (takeR c 1 (adv S)).2) := hS9e.symm
  clear hS9e
  generalize ht9 : hdT S9.L = t9 at *
  generalize hn9 : LL.length = n9 at *
  generalize erW S9.er = wh at *
  have e0 : erI S9.er = 0 := by simpa using hgood.symm
  rw [e0] at r4
  clear hgood e0
  have k8b : (t9.kind == 8) = false := by simpa using k8
  go_wp2_with fail
  go_quiet (fail)
  have HC5 := hid2 (HC4.out.next (below_drewN (Below.refl _ _) nq))
  clear u0 u1 u2 u3 r0 r1 r2 r3 r4 r5 q0 q1 q2 q3 q4 q5 hl htl hil hmx hle
  go_wp2_with fail
  refine Calls.mono (qMust_c k_sem ⟨ba_neL [40] (by decide), ba_neL [123] (by decide), ba_neL [41] (by decide), ba_neL [125] (by decide)⟩ _ HC5.out.re) ?_
  rintro e w16 ⟨rfl, t2, r2⟩
  have HC6 := hid2 (HC5.out.turn t2 r2)
  clear t2 r2 HC5
  obtain ⟨Y, hY⟩ : ∃ Y : Array Value, Hid (Y = (itC ⟨1, tk3.text, ⟨#[]⟩, 0, 0, 0, nilM, nilM, ((hdT S.L).at_ : Int)⟩ (.slice none 0 0) (.slice none 0 0)).toArray) := ⟨_, rfl⟩
  have sY : Y.size = 19 := by rw [hY.out]; rfl
  have ldY := ld_row (X := Y) HC6.out.lt (by rw [hY.out]) (n := m) hm19.out
  have one0 : Y.all (·.oneCell') = true := by rw [hY.out]; exact HC6.out.one
  have one : ∀ v ∈ Y.toList, v.oneCell' = true := fun v hv => Array.all_eq_true_iff_forall_mem.1 one0 v (by simpa using hv)
  have stY := st_at w.heap.size Y.toList 0 w16 _ HC6.out.rs (by simp [sY]) one
  have TF := hid2 (putRow_turn w.heap.size Y.toList 0 w16)
  have BF := putRow_whole HC6.out.rs (X := Y.toList) (by simp [sY])
  have ldF := ld_row (X := Y) BF rfl (n := m) (by simp [sY, hm19.out])
  have xl := HC6.out.lt.lt
  have pl := HC6.out.rs.lt
  have hgx := HC6.out.gg
  clear BF one one0
  generalize hWF : putRow w16 w.heap.size 0 Y.toList = WF at *
  clear hWF
  go_wp2_with fail
  refine bodyPost_ret (v := .agg Y) (by simp [results, Tryz.results18, go_sem, *]) rfl (hP.out _ Y ⟨1, tk3.text, ⟨#[]⟩, 0, 0, 0, nilM, nilM, ((hdT S.L).at_ : Int)⟩ (.slice none 0 0) (.slice none 0 0) (mustR c k_sem S9) hY.out ?_ ?_ (HC6.out.itb TF.out) (by rw [hR.out, htk3.out]; unfold metricR unitR; rw [← hS9.out, if_neg (fun hh => k8 (by rw [← ht9]; exact hh.2))]))
  · exact HC6.out.tn.trans TF.out (fun i hi => .inr (by simp at hi; omega))
  · exact HC6.out.re.turn TF.out (by simp; omega) (by simp; omega)
set_option maxHeartbeats 16000000 in
set_option maxRecDepth 20000 in
theorem qItem_metricB {z rb tb : Nat} {LL : List Tk} {c : Int} {o : Nat} (hz : z ≤ 9223372036854775807) {S : Sr} (y : isR k_metric S = true) (u : (takeR c 1 (adv S)).2.good = false) (w : World) (hr : Rr z w rb tb LL c S o) :
    Calls Tryz.prog 18 #[.pointer (some ⟨rb, 0, none⟩)] w (IqP z w rb tb LL c o ((metricR c (hdT S.L).at_ (adv S)).1, mustR c k_sem (metricR c (hdT S.L).at_ (adv S)).2)) := by
  obtain ⟨R, hR⟩ : ∃ R, Hid (R = ((metricR c (hdT S.L).at_ (adv S)).1, mustR c k_sem (metricR c (hdT S.L).at_ (adv S)).2)) := ⟨_, rfl⟩
  rw [← hR.out]
  have hP : Hid (∀ w' Y i vx vy S', Y = (itC i vx vy).toArray → Turn [rb] w w' → Rr z w' rb tb LL c S' o → ItB w.heap.size z w' i vx vy → R = (i, S') → IqP z w rb tb LL c o R (.returned (.agg Y)) w') := fun w' Y i vx vy S' h0 h1 h2 h3 h4 => ⟨h1, ⟨vx, vy, by rw [h4, h0], by rw [h4]; exact h3⟩, by rw [h4]; exact h2⟩
  generalize IqP z w rb tb LL c o R = Post at *
  have hl0 := hr.lts
  have hat := hr.tl.ok.a
  have hz0 := hid2 hz
  have fl1 := fld1
  have fl2 := fld2
  obtain ⟨m, hm19⟩ : ∃ m : Nat, Hid (m = 19) := ⟨_, rfl⟩
  have zs : ∀ w, (sizeOf 53).run Tryz.prog w = .ok m w := by rw [hm19.out]; exact Tryz.sizeOf53
  have zm : (19 = m) = True := eq_true hm19.out.symm
  have R0 := hid2 (hr.next ((Below.refl _ _).alloc (Nat.le_refl _) (.cells zs19.toArray 53)))
  have R1 := hid2 hr
  obtain ⟨X, hX⟩ : ∃ X : Array Value, Hid (X = (itC (it0 0 ((hdT S.L).at_ : Int)) (.slice none 0 0) (.slice none 0 0)).toArray) := ⟨_, rfl⟩
  have stX := fun W => st_it W (X := X) (by rw [hX.out]; rfl) (by rw [hX.out]; kernel_rfl)
  unfold zeroI at stX
  have sX : X.size = 19 := by rw [hX.out]; rfl
  clear hr hz
  go_enter Tryz.func18, Tryz.ntmps18
  go_wp2_with fail
  refine Calls.mono (qAt_c _ R0.out) ?_
  rintro e w1 ⟨rfl, b1⟩
  have HC0 := hid2 (ImS.made R1.out b1 ((hdT S.L).at_ : Int))
  rw [← hX.out] at HC0
  clear b1 R0 R1
  go_wp2_with (refine wpList_it8 rfl _ rfl ((hdT S.L).at_ : Int) rfl X hX.out ?_)
  clear stX sX
  obtain ⟨g, hgg⟩ : ∃ g : Nat, Hid (g = w1.heap.size) := ⟨_, rfl⟩
  rw [← hgg.out] at HC0 ⊢
  generalize hW1 : w1.alloc _ = W1 at *
  clear hW1 hX hgg
  refine Calls.mono (qMay_c k_metric ⟨ba_neL [40] (by decide), ba_neL [123] (by decide), ba_neL [41] (by decide), ba_neL [125] (by decide)⟩ _ HC0.out.re) ?_
  rintro e w11 ⟨rfl, t2, r2⟩
  have HC1 := hid2 (HC0.out.turn t2 r2)
  clear t2 r2 HC0
  rw [y]
  rw [may_adv y] at HC1
  have c0 := HC1.out.lt.cell 0 _ rfl
  have f0 := HC1.out.lt.free 0 (by simp)
  have cl := HC1.out.lt.lt
  have HC2 := hid2 (HC1.out.set 0 (.int .i64 1) ⟨1, ⟨#[]⟩, ⟨#[]⟩, 0, 0, 0, nilM, nilM, ((hdT S.L).at_ : Int)⟩ (by decide) rfl rfl rfl HC1.out.nm HC1.out.un)
  go_wp2_with fail
  clear cl c0 f0 HC1
  refine Calls.mono (qTake_c 1 (by decide) _ HC2.out.re) ?_
  rintro e w13 ⟨rfl, t2, r2⟩
  have Hk3 := hid2 (take_tk (c := c) (k := 1) HC2.out.re.tl)
  have HC3 := hid2 (HC2.out.turn t2 r2)
  clear t2 r2 HC2
  simp only [tkW]
  obtain ⟨tk3, htk3⟩ : ∃ tk, Hid (tk = (takeR c 1 (adv S)).1) := ⟨_, rfl⟩
  rw [← htk3.out] at Hk3 ⊢
  have c1 := HC3.out.lt.cell 1 _ rfl
  have f1 := HC3.out.lt.free 1 (by simp)
  have cl := HC3.out.lt.lt
  have HC4 := hid2 (HC3.out.set 1 (.string tk3.text) ⟨1, tk3.text, ⟨#[]⟩, 0, 0, 0, nilM, nilM, ((hdT S.L).at_ : Int)⟩ (by decide) rfl rfl rfl Hk3.out.1 HC3.out.un)
  have hgr : g ≠ rb ∧ g ≠ tb := by have := HC3.out.gg; have := HC3.out.rl; omega
  obtain ⟨hg1, hg2⟩ := hgr
  have hg3 : ¬ rb = g := fun h => hg1 h.symm
  have hg4 : ¬ tb = g := fun h => hg2 h.symm
  have hgood := HC3.out.re.good
  rw [u] at hgood
  have hRp := HC3.out.re
  obtain ⟨off, cap, i, ov, h⟩ := hRp
  obtain ⟨u0, u1, u2, u3⟩ := h.hd
  obtain ⟨r0, r1, r2, r3, r4, r5, q0, q1, q2, q3, q4, q5⟩ := h.box.six
  have hl := h.box.lt
  have htl := h.lt
  have hil : (i : Int) < (LL.length : Int) := by have := h.il; omega
  have hmx := h.mx
  have hle := h.le
  clear h
  generalize hS9e : (takeR c 1 (adv S)).2 = S9 at *
  have hS9 : Hid (S9 = (takeR c 1 (adv S)).2) := hS9e.symm
  clear hS9e
  generalize ht9 : hdT S9.L = t9 at *
  generalize hn9 : LL.length = n9 at *
  generalize erW S9.er = wh at *
  generalize erI S9.er = er at *
  have er0 : ¬ er = 0 := by intro hh; rw [hh] at hgood; simp at hgood
  have k0 : (er == 0) = false := by simpa using er0
  clear hgood
  go_wp2_with fail
  go_quiet (fail)
  have HC5 := hid2 (HC4.out.next (below_drewN (Below.refl _ _) nq))
  clear u0 u1 u2 u3 r0 r1 r2 r3 r4 r5 q0 q1 q2 q3 q4 q5 hl htl hil hmx hle
  go_wp2_with fail
  refine Calls.mono (qMust_c k_sem ⟨ba_neL [40] (by decide), ba_neL [123] (by decide), ba_neL [41] (by decide), ba_neL [125] (by decide)⟩ _ HC5.out.re) ?_
  rintro e w16 ⟨rfl, t2, r2⟩
  have HC6 := hid2 (HC5.out.turn t2 r2)
  clear t2 r2 HC5
  obtain ⟨Y, hY⟩ : ∃ Y : Array Value, Hid (Y = (itC ⟨1, tk3.text, ⟨#[]⟩, 0, 0, 0, nilM, nilM, ((hdT S.L).at_ : Int)⟩ (.slice none 0 0) (.slice none 0 0)).toArray) := ⟨_, rfl⟩
  have sY : Y.size = 19 := by rw [hY.out]; rfl
  have ldY := ld_row (X := Y) HC6.out.lt (by rw [hY.out]) (n := m) hm19.out
  have one0 : Y.all (·.oneCell') = true := by rw [hY.out]; exact HC6.out.one
  have one : ∀ v ∈ Y.toList, v.oneCell' = true := fun v hv => Array.all_eq_true_iff_forall_mem.1 one0 v (by simpa using hv)
  have stY := st_at w.heap.size Y.toList 0 w16 _ HC6.out.rs (by simp [sY]) one
  have TF := hid2 (putRow_turn w.heap.size Y.toList 0 w16)
  have BF := putRow_whole HC6.out.rs (X := Y.toList) (by simp [sY])
  have ldF := ld_row (X := Y) BF rfl (n := m) (by simp [sY, hm19.out])
  have xl := HC6.out.lt.lt
  have pl := HC6.out.rs.lt
  have hgx := HC6.out.gg
  clear BF one one0
  generalize hWF : putRow w16 w.heap.size 0 Y.toList = WF at *
  clear hWF
  go_wp2_with fail
  refine bodyPost_ret (v := .agg Y) (by simp [results, Tryz.results18, go_sem, *]) rfl (hP.out _ Y ⟨1, tk3.text, ⟨#[]⟩, 0, 0, 0, nilM, nilM, ((hdT S.L).at_ : Int)⟩ (.slice none 0 0) (.slice none 0 0) (mustR c k_sem S9) hY.out ?_ ?_ (HC6.out.itb TF.out) (by rw [hR.out, htk3.out]; unfold metricR unitR; rw [← hS9.out, if_neg (fun hh => by rw [u] at hh; cases hh.1)]))
  · exact HC6.out.tn.trans TF.out (fun i hi => .inr (by simp at hi; omega))
  · exact HC6.out.re.turn TF.out (by simp; omega) (by simp; omega)
end Go.Proofs.YtecdfnpbcabdnaaGreatDoor

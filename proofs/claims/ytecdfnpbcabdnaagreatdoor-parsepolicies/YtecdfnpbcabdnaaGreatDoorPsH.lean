/- The document's reader in memory: the items of lets and guards. -/
import Derived.Test.YtecdfnpbcabdnaaGreatDoorPsC
namespace Go.Proofs.YtecdfnpbcabdnaaGreatDoor
open Go.RowKit Go.Lib

set_option maxHeartbeats 16000000 in
set_option maxRecDepth 20000 in
theorem qItem_letY {z rb tb : Nat} {LL : List Tk} {c : Int} {o : Nat} (hz : z ≤ 9223372036854775807) {E : Rdf} (HE : RdC z rb tb LL c o 22 E) {S : Sr} (n0 : isR k_metric S = false) (n1 : isR k_reps S = false) (n2 : isR k_cooldown S = false) (y : isR k_let S = true) (u : (mustR c k_eq (takeR c 1 (adv S)).2).good = true) (w : World) (hr : Rr z w rb tb LL c S o) :
    Calls Tryz.prog 18 #[.pointer (some ⟨rb, 0, none⟩)] w (IqP z w rb tb LL c o ((letR c E (hdT S.L).at_ (adv S)).1, mustR c k_sem (letR c E (hdT S.L).at_ (adv S)).2)) := by
  obtain ⟨R, hR⟩ : ∃ R, Hid (R = ((letR c E (hdT S.L).at_ (adv S)).1, mustR c k_sem (letR c E (hdT S.L).at_ (adv S)).2)) := ⟨_, rfl⟩
  rw [← hR.out]
  have hP : Hid (∀ w' Y i vx vy S', Y = (itC i vx vy).toArray → Turn [rb] w w' → Rr z w' rb tb LL c S' o → ItB w.heap.size z w' i vx vy → R = (i, S') → IqP z w rb tb LL c o R (.returned (.agg Y)) w') := fun w' Y i vx vy S' h0 h1 h2 h3 h4 => ⟨h1, ⟨vx, vy, by rw [h4, h0], by rw [h4]; exact h3⟩, by rw [h4]; exact h2⟩
  generalize IqP z w rb tb LL c o R = Post at *
  have hl0 := hr.lts
  have hat := hr.tl.ok.a
  have hz0 := hid2 hz
  have fl1 := fld1
  have fl2 := fld2
  obtain ⟨m, hm19⟩ : ∃ m : Nat, Hid (m = 19) := ⟨_, rfl⟩
  have zs : ∀ w, (sizeOf 53).run Tryz.prog w = .ok m w := by rw [hm19.out]; exact Tryz.sizeOf53
  have zm : (19 = m) = True := eq_true hm19.out.symm
  have R0 := hid2 (hr.next ((Below.refl _ _).alloc (Nat.le_refl _) (.cells zs19.toArray 53)))
  have R1 := hid2 hr
  obtain ⟨X, hX⟩ : ∃ X : Array Value, Hid (X = (itC (it0 0 ((hdT S.L).at_ : Int)) (.slice none 0 0) (.slice none 0 0)).toArray) := ⟨_, rfl⟩
  have stX := fun W => st_it W (X := X) (by rw [hX.out]; rfl) (by rw [hX.out]; kernel_rfl)
  unfold zeroI at stX
  have sX : X.size = 19 := by rw [hX.out]; rfl
  clear hr hz
  go_enter Tryz.func18, Tryz.ntmps18
  go_wp2_with fail
  refine Calls.mono (qAt_c _ R0.out) ?_
  rintro e w1 ⟨rfl, b1⟩
  have HC0 := hid2 (ImS.made R1.out b1 ((hdT S.L).at_ : Int))
  rw [← hX.out] at HC0
  clear b1 R0 R1
  go_wp2_with (refine wpList_it8 rfl _ rfl ((hdT S.L).at_ : Int) rfl X hX.out ?_)
  clear stX sX
  obtain ⟨g, hgg⟩ : ∃ g : Nat, Hid (g = w1.heap.size) := ⟨_, rfl⟩
  rw [← hgg.out] at HC0 ⊢
  generalize hW1 : w1.alloc _ = W1 at *
  clear hW1 hX hgg
  refine Calls.mono (qMay_c k_metric ⟨ba_neL [40] (by decide), ba_neL [123] (by decide), ba_neL [41] (by decide), ba_neL [125] (by decide)⟩ _ HC0.out.re) ?_
  rintro e w11 ⟨rfl, t2, r2⟩
  have HC1 := hid2 (HC0.out.turn t2 r2)
  clear t2 r2 HC0
  rw [n0]
  rw [may_not n0] at HC1
  go_wp2_with fail
  refine Calls.mono (qMay_c k_reps ⟨ba_neL [40] (by decide), ba_neL [123] (by decide), ba_neL [41] (by decide), ba_neL [125] (by decide)⟩ _ HC1.out.re) ?_
  rintro e w12 ⟨rfl, t2, r2⟩
  have HC2 := hid2 (HC1.out.turn t2 r2)
  clear t2 r2 HC1
  rw [n1]
  rw [may_not n1] at HC2
  go_wp2_with fail
  refine Calls.mono (qMay_c k_cooldown ⟨ba_neL [40] (by decide), ba_neL [123] (by decide), ba_neL [41] (by decide), ba_neL [125] (by decide)⟩ _ HC2.out.re) ?_
  rintro e w13 ⟨rfl, t2, r2⟩
  have HC3 := hid2 (HC2.out.turn t2 r2)
  clear t2 r2 HC2
  rw [n2]
  rw [may_not n2] at HC3
  go_wp2_with fail
  refine Calls.mono (qMay_c k_let ⟨ba_neL [40] (by decide), ba_neL [123] (by decide), ba_neL [41] (by decide), ba_neL [125] (by decide)⟩ _ HC3.out.re) ?_
  rintro e w14 ⟨rfl, t2, r2⟩
  have HC4 := hid2 (HC3.out.turn t2 r2)
  clear t2 r2 HC3
  rw [y]
  rw [may_adv y] at HC4
  have c0 := HC4.out.lt.cell 0 _ rfl
  have f0 := HC4.out.lt.free 0 (by simp)
  have cl := HC4.out.lt.lt
  have HC5 := hid2 (HC4.out.set 0 (.int .i64 5) ⟨5, ⟨#[]⟩, ⟨#[]⟩, 0, 0, 0, nilM, nilM, ((hdT S.L).at_ : Int)⟩ (by decide) rfl rfl rfl HC4.out.nm HC4.out.un)
  go_wp2_with fail
  clear cl c0 f0 HC4
  refine Calls.mono (qTake_c 1 (by decide) _ HC5.out.re) ?_
  rintro e w16 ⟨rfl, t2, r2⟩
  have Hk6 := hid2 (take_tk (c := c) (k := 1) HC5.out.re.tl)
  have HC6 := hid2 (HC5.out.turn t2 r2)
  clear t2 r2 HC5
  simp only [tkW]
  obtain ⟨tk6, htk6⟩ : ∃ tk, Hid (tk = (takeR c 1 (adv S)).1) := ⟨_, rfl⟩
  rw [← htk6.out] at Hk6 ⊢
  have c1 := HC6.out.lt.cell 1 _ rfl
  have f1 := HC6.out.lt.free 1 (by simp)
  have cl := HC6.out.lt.lt
  have HC7 := hid2 (HC6.out.set 1 (.string tk6.text) ⟨5, tk6.text, ⟨#[]⟩, 0, 0, 0, nilM, nilM, ((hdT S.L).at_ : Int)⟩ (by decide) rfl rfl rfl Hk6.out.1 HC6.out.un)
  go_wp2_with fail
  clear cl c1 f1 HC6
  refine Calls.mono (qMust_c k_eq ⟨ba_neL [40] (by decide), ba_neL [123] (by decide), ba_neL [41] (by decide), ba_neL [125] (by decide)⟩ _ HC7.out.re) ?_
  rintro e w18 ⟨rfl, t2, r2⟩
  have HC8 := hid2 (HC7.out.turn t2 r2)
  clear t2 r2 HC7
  obtain ⟨er, e4, el, eg⟩ := HC8.out.re.errc
  rw [u] at eg
  obtain rfl : er = 0 := by simpa using eg.symm
  clear eg
  go_wp2_with fail
  clear e4 el
  refine Calls.mono (HE (mustR c k_eq (takeR c 1 (adv S)).2) _ HC8.out.re) ?_
  rintro e w19 ⟨t4, ⟨v, rfl, u9, rfl, s4⟩, r4⟩
  have HC9 := hid2 (HC8.out.turn t4 r4)
  have hsz9 := HC8.out.lt.lt
  have hgg9 := HC8.out.gg
  have S9x : Hid (SitQ (fun b => w.heap.size < b ∧ b ≠ g) z w19 (E (mustR c k_eq (takeR c 1 (adv S)).2)).1 u9) := s4.weak (fun b _ hb => by have hb' : _ ≤ b := hb; omega)
  clear HC8
  obtain ⟨ad9, cp9, rfl, -, -⟩ := s4.parts.shape
  simp only [tmV]
  clear t4 r4 s4
  obtain ⟨x0, x1, x2, x3, x4, x5, y0, y1, y2, y3, y4, y5⟩ := HC9.out.lt.cells_at 6 _ _ _ _ _ _ rfl rfl rfl rfl rfl rfl
  have xl := HC9.out.lt.lt
  have HC10 := hid2 (HC9.out.setX S9x.out)
  go_wp2_with fail
  clear HC9 S9x hsz9 hgg9 xl x0 x1 x2 x3 x4 x5 y0 y1 y2 y3 y4 y5
  refine Calls.mono (qMust_c k_sem ⟨ba_neL [40] (by decide), ba_neL [123] (by decide), ba_neL [41] (by decide), ba_neL [125] (by decide)⟩ _ HC10.out.re) ?_
  rintro e w21 ⟨rfl, t2, r2⟩
  have HC11 := hid2 (HC10.out.turn t2 r2)
  clear t2 r2 HC10
  obtain ⟨Y, hY⟩ : ∃ Y : Array Value, Hid (Y = (itC ⟨5, tk6.text, ⟨#[]⟩, 0, 0, 0, (E (mustR c k_eq (takeR c 1 (adv S)).2)).1, nilM, ((hdT S.L).at_ : Int)⟩ (.slice ad9 (E (mustR c k_eq (takeR c 1 (adv S)).2)).1.parts.length cp9) (.slice none 0 0)).toArray) := ⟨_, rfl⟩
  have sY : Y.size = 19 := by rw [hY.out]; rfl
  have ldY := ld_row (X := Y) HC11.out.lt (by rw [hY.out]) (n := m) hm19.out
  have one0 : Y.all (·.oneCell') = true := by rw [hY.out]; exact HC11.out.one
  have one : ∀ v ∈ Y.toList, v.oneCell' = true := fun v hv => Array.all_eq_true_iff_forall_mem.1 one0 v (by simpa using hv)
  have stY := st_at w.heap.size Y.toList 0 w21 _ HC11.out.rs (by simp [sY]) one
  have TF := hid2 (putRow_turn w.heap.size Y.toList 0 w21)
  have BF := putRow_whole HC11.out.rs (X := Y.toList) (by simp [sY])
  have ldF := ld_row (X := Y) BF rfl (n := m) (by simp [sY, hm19.out])
  have xl := HC11.out.lt.lt
  have pl := HC11.out.rs.lt
  have hgx := HC11.out.gg
  clear BF one one0
  generalize hWF : putRow w21 w.heap.size 0 Y.toList = WF at *
  clear hWF
  go_wp2_with fail
  refine bodyPost_ret (v := .agg Y) (by simp [results, Tryz.results18, go_sem, *]) rfl (hP.out _ Y ⟨5, tk6.text, ⟨#[]⟩, 0, 0, 0, (E (mustR c k_eq (takeR c 1 (adv S)).2)).1, nilM, ((hdT S.L).at_ : Int)⟩ (.slice ad9 (E (mustR c k_eq (takeR c 1 (adv S)).2)).1.parts.length cp9) (.slice none 0 0) (mustR c k_sem (E (mustR c k_eq (takeR c 1 (adv S)).2)).2) hY.out ?_ ?_ (HC11.out.itb TF.out) (by rw [hR.out, htk6.out]; unfold letR okR; rw [if_pos u]; rfl))
  · exact HC11.out.tn.trans TF.out (fun i hi => .inr (by simp at hi; omega))
  · exact HC11.out.re.turn TF.out (by simp; omega) (by simp; omega)
set_option maxHeartbeats 16000000 in
set_option maxRecDepth 20000 in
theorem qItem_letN {z rb tb : Nat} {LL : List Tk} {c : Int} {o : Nat} (hz : z ≤ 9223372036854775807) {E : Rdf} {S : Sr} (n0 : isR k_metric S = false) (n1 : isR k_reps S = false) (n2 : isR k_cooldown S = false) (y : isR k_let S = true) (u : (mustR c k_eq (takeR c 1 (adv S)).2).good = false) (w : World) (hr : Rr z w rb tb LL c S o) :
    Calls Tryz.prog 18 #[.pointer (some ⟨rb, 0, none⟩)] w (IqP z w rb tb LL c o ((letR c E (hdT S.L).at_ (adv S)).1, mustR c k_sem (letR c E (hdT S.L).at_ (adv S)).2)) := by
  obtain ⟨R, hR⟩ : ∃ R, Hid (R = ((letR c E (hdT S.L).at_ (adv S)).1, mustR c k_sem (letR c E (hdT S.L).at_ (adv S)).2)) := ⟨_, rfl⟩
  rw [← hR.out]
  have hP : Hid (∀ w' Y i vx vy S', Y = (itC i vx vy).toArray → Turn [rb] w w' → Rr z w' rb tb LL c S' o → ItB w.heap.size z w' i vx vy → R = (i, S') → IqP z w rb tb LL c o R (.returned (.agg Y)) w') := fun w' Y i vx vy S' h0 h1 h2 h3 h4 => ⟨h1, ⟨vx, vy, by rw [h4, h0], by rw [h4]; exact h3⟩, by rw [h4]; exact h2⟩
  generalize IqP z w rb tb LL c o R = Post at *
  have hl0 := hr.lts
  have hat := hr.tl.ok.a
  have hz0 := hid2 hz
  have fl1 := fld1
  have fl2 := fld2
  obtain ⟨m, hm19⟩ : ∃ m : Nat, Hid (m = 19) := ⟨_, rfl⟩
  have zs : ∀ w, (sizeOf 53).run Tryz.prog w = .ok m w := by rw [hm19.out]; exact Tryz.sizeOf53
  have zm : (19 = m) = True := eq_true hm19.out.symm
  have R0 := hid2 (hr.next ((Below.refl _ _).alloc (Nat.le_refl _) (.cells zs19.toArray 53)))
  have R1 := hid2 hr
  obtain ⟨X, hX⟩ : ∃ X : Array Value, Hid (X = (itC (it0 0 ((hdT S.L).at_ : Int)) (.slice none 0 0) (.slice none 0 0)).toArray) := ⟨_, rfl⟩
  have stX := fun W => st_it W (X := X) (by rw [hX.out]; rfl) (by rw [hX.out]; kernel_rfl)
  unfold zeroI at stX
  have sX : X.size = 19 := by rw [hX.out]; rfl
  clear hr hz
  go_enter Tryz.func18, Tryz.ntmps18
  go_wp2_with fail
  refine Calls.mono (qAt_c _ R0.out) ?_
  rintro e w1 ⟨rfl, b1⟩
  have HC0 := hid2 (ImS.made R1.out b1 ((hdT S.L).at_ : Int))
  rw [← hX.out] at HC0
  clear b1 R0 R1
  go_wp2_with (refine wpList_it8 rfl _ rfl ((hdT S.L).at_ : Int) rfl X hX.out ?_)
  clear stX sX
  obtain ⟨g, hgg⟩ : ∃ g : Nat, Hid (g = w1.heap.size) := ⟨_, rfl⟩
  rw [← hgg.out] at HC0 ⊢
  generalize hW1 : w1.alloc _ = W1 at *
  clear hW1 hX hgg
  refine Calls.mono (qMay_c k_metric ⟨ba_neL [40] (by decide), ba_neL [123] (by decide), ba_neL [41] (by decide), ba_neL [125] (by decide)⟩ _ HC0.out.re) ?_
  rintro e w11 ⟨rfl, t2, r2⟩
  have HC1 := hid2 (HC0.out.turn t2 r2)
  clear t2 r2 HC0
  rw [n0]
  rw [may_not n0] at HC1
  go_wp2_with fail
  refine Calls.mono (qMay_c k_reps ⟨ba_neL [40] (by decide), ba_neL [123] (by decide), ba_neL [41] (by decide), ba_neL [125] (by decide)⟩ _ HC1.out.re) ?_
  rintro e w12 ⟨rfl, t2, r2⟩
  have HC2 := hid2 (HC1.out.turn t2 r2)
  clear t2 r2 HC1
  rw [n1]
  rw [may_not n1] at HC2
  go_wp2_with fail
  refine Calls.mono (qMay_c k_cooldown ⟨ba_neL [40] (by decide), ba_neL [123] (by decide), ba_neL [41] (by decide), ba_neL [125] (by decide)⟩ _ HC2.out.re) ?_
  rintro e w13 ⟨rfl, t2, r2⟩
  have HC3 := hid2 (HC2.out.turn t2 r2)
  clear t2 r2 HC2
  rw [n2]
  rw [may_not n2] at HC3
  go_wp2_with fail
  refine Calls.mono (qMay_c k_let ⟨ba_neL [40] (by decide), ba_neL [123] (by decide), ba_neL [41] (by decide), ba_neL [125] (by decide)⟩ _ HC3.out.re) ?_
  rintro e w14 ⟨rfl, t2, r2⟩
  have HC4 := hid2 (HC3.out.turn t2 r2)
  clear t2 r2 HC3
  rw [y]
  rw [may_adv y] at HC4
  have c0 := HC4.out.lt.cell 0 _ rfl
  have f0 := HC4.out.lt.free 0 (by simp)
  have cl := HC4.out.lt.lt
  have HC5 := hid2 (HC4.out.set 0 (.int .i64 5) ⟨5, ⟨#[]⟩, ⟨#[]⟩, 0, 0, 0, nilM, nilM, ((hdT S.L).at_ : Int)⟩ (by decide) rfl rfl rfl HC4.out.nm HC4.out.un)
  go_wp2_with fail
  clear cl c0 f0 HC4
  refine Calls.mono (qTake_c 1 (by decide) _ HC5.out.re) ?_
  rintro e w16 ⟨rfl, t2, r2⟩
  have Hk6 := hid2 (take_tk (c := c) (k := 1) HC5.out.re.tl)
  have HC6 := hid2 (HC5.out.turn t2 r2)
  clear t2 r2 HC5
  simp only [tkW]
  obtain ⟨tk6, htk6⟩ : ∃ tk, Hid (tk = (takeR c 1 (adv S)).1) := ⟨_, rfl⟩
  rw [← htk6.out] at Hk6 ⊢
  have c1 := HC6.out.lt.cell 1 _ rfl
  have f1 := HC6.out.lt.free 1 (by simp)
  have cl := HC6.out.lt.lt
  have HC7 := hid2 (HC6.out.set 1 (.string tk6.text) ⟨5, tk6.text, ⟨#[]⟩, 0, 0, 0, nilM, nilM, ((hdT S.L).at_ : Int)⟩ (by decide) rfl rfl rfl Hk6.out.1 HC6.out.un)
  go_wp2_with fail
  clear cl c1 f1 HC6
  refine Calls.mono (qMust_c k_eq ⟨ba_neL [40] (by decide), ba_neL [123] (by decide), ba_neL [41] (by decide), ba_neL [125] (by decide)⟩ _ HC7.out.re) ?_
  rintro e w18 ⟨rfl, t2, r2⟩
  have HC8 := hid2 (HC7.out.turn t2 r2)
  clear t2 r2 HC7
  obtain ⟨er, e4, el, eg⟩ := HC8.out.re.errc
  rw [u] at eg
  have er0 : ¬ er = 0 := by intro h; rw [h] at eg; simp at eg
  have k0 : (er == 0) = false := by simpa using er0
  clear eg
  go_wp2_with fail
  clear e4 el
  refine Calls.mono (qMust_c k_sem ⟨ba_neL [40] (by decide), ba_neL [123] (by decide), ba_neL [41] (by decide), ba_neL [125] (by decide)⟩ _ HC8.out.re) ?_
  rintro e w19 ⟨rfl, t2, r2⟩
  have HC9 := hid2 (HC8.out.turn t2 r2)
  clear t2 r2 HC8
  obtain ⟨Y, hY⟩ : ∃ Y : Array Value, Hid (Y = (itC ⟨5, tk6.text, ⟨#[]⟩, 0, 0, 0, nilM, nilM, ((hdT S.L).at_ : Int)⟩ (.slice none 0 0) (.slice none 0 0)).toArray) := ⟨_, rfl⟩
  have sY : Y.size = 19 := by rw [hY.out]; rfl
  have ldY := ld_row (X := Y) HC9.out.lt (by rw [hY.out]) (n := m) hm19.out
  have one0 : Y.all (·.oneCell') = true := by rw [hY.out]; exact HC9.out.one
  have one : ∀ v ∈ Y.toList, v.oneCell' = true := fun v hv => Array.all_eq_true_iff_forall_mem.1 one0 v (by simpa using hv)
  have stY := st_at w.heap.size Y.toList 0 w19 _ HC9.out.rs (by simp [sY]) one
  have TF := hid2 (putRow_turn w.heap.size Y.toList 0 w19)
  have BF := putRow_whole HC9.out.rs (X := Y.toList) (by simp [sY])
  have ldF := ld_row (X := Y) BF rfl (n := m) (by simp [sY, hm19.out])
  have xl := HC9.out.lt.lt
  have pl := HC9.out.rs.lt
  have hgx := HC9.out.gg
  clear BF one one0
  generalize hWF : putRow w19 w.heap.size 0 Y.toList = WF at *
  clear hWF
  go_wp2_with fail
  refine bodyPost_ret (v := .agg Y) (by simp [results, Tryz.results18, go_sem, *]) rfl (hP.out _ Y ⟨5, tk6.text, ⟨#[]⟩, 0, 0, 0, nilM, nilM, ((hdT S.L).at_ : Int)⟩ (.slice none 0 0) (.slice none 0 0) (mustR c k_sem (mustR c k_eq (takeR c 1 (adv S)).2)) hY.out ?_ ?_ (HC9.out.itb TF.out) (by rw [hR.out, htk6.out]; unfold letR okR; rw [if_neg (by rw [u]; simp)]; rfl))
  · exact HC9.out.tn.trans TF.out (fun i hi => .inr (by simp at hi; omega))
  · exact HC9.out.re.turn TF.out (by simp; omega) (by simp; omega)
set_option maxHeartbeats 16000000 in
set_option maxRecDepth 20000 in
theorem qItem_guardY {z rb tb : Nat} {LL : List Tk} {c : Int} {o : Nat} (hz : z ≤ 9223372036854775807) {E A : Rdf} (HE : RdC z rb tb LL c o 22 E) (HA : RdC z rb tb LL c o 34 A) {S : Sr} (n0 : isR k_metric S = false) (n1 : isR k_reps S = false) (n2 : isR k_cooldown S = false) (n3 : isR k_let S = false) (y : isR k_guard S = true) (u : (mustR c k_then (E (adv S)).2).good = true) (w : World) (hr : Rr z w rb tb LL c S o) :
    Calls Tryz.prog 18 #[.pointer (some ⟨rb, 0, none⟩)] w (IqP z w rb tb LL c o ((guardR c E A (hdT S.L).at_ (adv S)).1, mustR c k_sem (guardR c E A (hdT S.L).at_ (adv S)).2)) := by
  obtain ⟨R, hR⟩ : ∃ R, Hid (R = ((guardR c E A (hdT S.L).at_ (adv S)).1, mustR c k_sem (guardR c E A (hdT S.L).at_ (adv S)).2)) := ⟨_, rfl⟩
  rw [← hR.out]
  have hP : Hid (∀ w' Y i vx vy S', Y = (itC i vx vy).toArray → Turn [rb] w w' → Rr z w' rb tb LL c S' o → ItB w.heap.size z w' i vx vy → R = (i, S') → IqP z w rb tb LL c o R (.returned (.agg Y)) w') := fun w' Y i vx vy S' h0 h1 h2 h3 h4 => ⟨h1, ⟨vx, vy, by rw [h4, h0], by rw [h4]; exact h3⟩, by rw [h4]; exact h2⟩
  generalize IqP z w rb tb LL c o R = Post at *
  have hl0 := hr.lts
  have hat := hr.tl.ok.a
  have hz0 := hid2 hz
  have fl1 := fld1
  have fl2 := fld2
  obtain ⟨m, hm19⟩ : ∃ m : Nat, Hid (m = 19) := ⟨_, rfl⟩
  have zs : ∀ w, (sizeOf 53).run Tryz.prog w = .ok m w := by rw [hm19.out]; exact Tryz.sizeOf53
  have zm : (19 = m) = True := eq_true hm19.out.symm
  have R0 := hid2 (hr.next ((Below.refl _ _).alloc (Nat.le_refl _) (.cells zs19.toArray 53)))
  have R1 := hid2 hr
  obtain ⟨X, hX⟩ : ∃ X : Array Value, Hid (X = (itC (it0 0 ((hdT S.L).at_ : Int)) (.slice none 0 0) (.slice none 0 0)).toArray) := ⟨_, rfl⟩
  have stX := fun W => st_it W (X := X) (by rw [hX.out]; rfl) (by rw [hX.out]; kernel_rfl)
  unfold zeroI at stX
  have sX : X.size = 19 := by rw [hX.out]; rfl
  clear hr hz
  go_enter Tryz.func18, Tryz.ntmps18
  go_wp2_with fail
  refine Calls.mono (qAt_c _ R0.out) ?_
  rintro e w1 ⟨rfl, b1⟩
  have HC0 := hid2 (ImS.made R1.out b1 ((hdT S.L).at_ : Int))
  rw [← hX.out] at HC0
  clear b1 R0 R1
  go_wp2_with (refine wpList_it8 rfl _ rfl ((hdT S.L).at_ : Int) rfl X hX.out ?_)
  clear stX sX
  obtain ⟨g, hgg⟩ : ∃ g : Nat, Hid (g = w1.heap.size) := ⟨_, rfl⟩
  rw [← hgg.out] at HC0 ⊢
  generalize hW1 : w1.alloc _ = W1 at *
  clear hW1 hX hgg
  refine Calls.mono (qMay_c k_metric ⟨ba_neL [40] (by decide), ba_neL [123] (by decide), ba_neL [41] (by decide), ba_neL [125] (by decide)⟩ _ HC0.out.re) ?_
  rintro e w11 ⟨rfl, t2, r2⟩
  have HC1 := hid2 (HC0.out.turn t2 r2)
  clear t2 r2 HC0
  rw [n0]
  rw [may_not n0] at HC1
  go_wp2_with fail
  refine Calls.mono (qMay_c k_reps ⟨ba_neL [40] (by decide), ba_neL [123] (by decide), ba_neL [41] (by decide), ba_neL [125] (by decide)⟩ _ HC1.out.re) ?_
  rintro e w12 ⟨rfl, t2, r2⟩
  have HC2 := hid2 (HC1.out.turn t2 r2)
  clear t2 r2 HC1
  rw [n1]
  rw [may_not n1] at HC2
  go_wp2_with fail
  refine Calls.mono (qMay_c k_cooldown ⟨ba_neL [40] (by decide), ba_neL [123] (by decide), ba_neL [41] (by decide), ba_neL [125] (by decide)⟩ _ HC2.out.re) ?_
  rintro e w13 ⟨rfl, t2, r2⟩
  have HC3 := hid2 (HC2.out.turn t2 r2)
  clear t2 r2 HC2
  rw [n2]
  rw [may_not n2] at HC3
  go_wp2_with fail
  refine Calls.mono (qMay_c k_let ⟨ba_neL [40] (by decide), ba_neL [123] (by decide), ba_neL [41] (by decide), ba_neL [125] (by decide)⟩ _ HC3.out.re) ?_
  rintro e w14 ⟨rfl, t2, r2⟩
  have HC4 := hid2 (HC3.out.turn t2 r2)
  clear t2 r2 HC3
  rw [n3]
  rw [may_not n3] at HC4
  go_wp2_with fail
  refine Calls.mono (qMay_c k_guard ⟨ba_neL [40] (by decide), ba_neL [123] (by decide), ba_neL [41] (by decide), ba_neL [125] (by decide)⟩ _ HC4.out.re) ?_
  rintro e w15 ⟨rfl, t2, r2⟩
  have HC5 := hid2 (HC4.out.turn t2 r2)
  clear t2 r2 HC4
  rw [y]
  rw [may_adv y] at HC5
  have c0 := HC5.out.lt.cell 0 _ rfl
  have f0 := HC5.out.lt.free 0 (by simp)
  have cl := HC5.out.lt.lt
  have HC6 := hid2 (HC5.out.set 0 (.int .i64 6) ⟨6, ⟨#[]⟩, ⟨#[]⟩, 0, 0, 0, nilM, nilM, ((hdT S.L).at_ : Int)⟩ (by decide) rfl rfl rfl HC5.out.nm HC5.out.un)
  go_wp2_with fail
  clear cl c0 f0 HC5
  refine Calls.mono (HE (adv S) _ HC6.out.re) ?_
  rintro e w17 ⟨t4, ⟨v, rfl, u7, rfl, s4⟩, r4⟩
  have HC7 := hid2 (HC6.out.turn t4 r4)
  have hsz7 := HC6.out.lt.lt
  have hgg7 := HC6.out.gg
  have S7x : Hid (SitQ (fun b => w.heap.size < b ∧ b ≠ g) z w17 (E (adv S)).1 u7) := s4.weak (fun b _ hb => by have hb' : _ ≤ b := hb; omega)
  clear HC6
  obtain ⟨ad7, cp7, rfl, -, -⟩ := s4.parts.shape
  simp only [tmV]
  clear t4 r4 s4
  obtain ⟨x0, x1, x2, x3, x4, x5, y0, y1, y2, y3, y4, y5⟩ := HC7.out.lt.cells_at 6 _ _ _ _ _ _ rfl rfl rfl rfl rfl rfl
  have xl := HC7.out.lt.lt
  have HC8 := hid2 (HC7.out.setX S7x.out)
  go_wp2_with fail
  clear HC7 S7x hsz7 hgg7 xl x0 x1 x2 x3 x4 x5 y0 y1 y2 y3 y4 y5
  refine Calls.mono (qMust_c k_then ⟨ba_neL [40] (by decide), ba_neL [123] (by decide), ba_neL [41] (by decide), ba_neL [125] (by decide)⟩ _ HC8.out.re) ?_
  rintro e w19 ⟨rfl, t2, r2⟩
  have HC9 := hid2 (HC8.out.turn t2 r2)
  clear t2 r2 HC8
  obtain ⟨er, e4, el, eg⟩ := HC9.out.re.errc
  rw [u] at eg
  obtain rfl : er = 0 := by simpa using eg.symm
  clear eg
  go_wp2_with fail
  clear e4 el
  refine Calls.mono (HA (mustR c k_then (E (adv S)).2) _ HC9.out.re) ?_
  rintro e w20 ⟨t4, ⟨v, rfl, u10, rfl, s4⟩, r4⟩
  have HC10 := hid2 (HC9.out.turn t4 r4)
  have hsz10 := HC9.out.lt.lt
  have hgg10 := HC9.out.gg
  have S10x : Hid (SitQ (fun b => w.heap.size < b ∧ b ≠ g) z w20 (A (mustR c k_then (E (adv S)).2)).1 u10) := s4.weak (fun b _ hb => by have hb' : _ ≤ b := hb; omega)
  clear HC9
  obtain ⟨ad10, cp10, rfl, -, -⟩ := s4.parts.shape
  simp only [tmV]
  clear t4 r4 s4
  obtain ⟨x0, x1, x2, x3, x4, x5, y0, y1, y2, y3, y4, y5⟩ := HC10.out.lt.cells_at 12 _ _ _ _ _ _ rfl rfl rfl rfl rfl rfl
  have xl := HC10.out.lt.lt
  have HC11 := hid2 (HC10.out.setY S10x.out)
  go_wp2_with fail
  clear HC10 S10x hsz10 hgg10 xl x0 x1 x2 x3 x4 x5 y0 y1 y2 y3 y4 y5
  refine Calls.mono (qMust_c k_sem ⟨ba_neL [40] (by decide), ba_neL [123] (by decide), ba_neL [41] (by decide), ba_neL [125] (by decide)⟩ _ HC11.out.re) ?_
  rintro e w22 ⟨rfl, t2, r2⟩
  have HC12 := hid2 (HC11.out.turn t2 r2)
  clear t2 r2 HC11
  obtain ⟨Y, hY⟩ : ∃ Y : Array Value, Hid (Y = (itC ⟨6, ⟨#[]⟩, ⟨#[]⟩, 0, 0, 0, (E (adv S)).1, (A (mustR c k_then (E (adv S)).2)).1, ((hdT S.L).at_ : Int)⟩ (.slice ad7 (E (adv S)).1.parts.length cp7) (.slice ad10 (A (mustR c k_then (E (adv S)).2)).1.parts.length cp10)).toArray) := ⟨_, rfl⟩
  have sY : Y.size = 19 := by rw [hY.out]; rfl
  have ldY := ld_row (X := Y) HC12.out.lt (by rw [hY.out]) (n := m) hm19.out
  have one0 : Y.all (·.oneCell') = true := by rw [hY.out]; exact HC12.out.one
  have one : ∀ v ∈ Y.toList, v.oneCell' = true := fun v hv => Array.all_eq_true_iff_forall_mem.1 one0 v (by simpa using hv)
  have stY := st_at w.heap.size Y.toList 0 w22 _ HC12.out.rs (by simp [sY]) one
  have TF := hid2 (putRow_turn w.heap.size Y.toList 0 w22)
  have BF := putRow_whole HC12.out.rs (X := Y.toList) (by simp [sY])
  have ldF := ld_row (X := Y) BF rfl (n := m) (by simp [sY, hm19.out])
  have xl := HC12.out.lt.lt
  have pl := HC12.out.rs.lt
  have hgx := HC12.out.gg
  clear BF one one0
  generalize hWF : putRow w22 w.heap.size 0 Y.toList = WF at *
  clear hWF
  go_wp2_with fail
  refine bodyPost_ret (v := .agg Y) (by simp [results, Tryz.results18, go_sem, *]) rfl (hP.out _ Y ⟨6, ⟨#[]⟩, ⟨#[]⟩, 0, 0, 0, (E (adv S)).1, (A (mustR c k_then (E (adv S)).2)).1, ((hdT S.L).at_ : Int)⟩ (.slice ad7 (E (adv S)).1.parts.length cp7) (.slice ad10 (A (mustR c k_then (E (adv S)).2)).1.parts.length cp10) (mustR c k_sem (A (mustR c k_then (E (adv S)).2)).2) hY.out ?_ ?_ (HC12.out.itb TF.out) (by rw [hR.out]; unfold guardR okR; rw [if_pos u]; rfl))
  · exact HC12.out.tn.trans TF.out (fun i hi => .inr (by simp at hi; omega))
  · exact HC12.out.re.turn TF.out (by simp; omega) (by simp; omega)
set_option maxHeartbeats 16000000 in
set_option maxRecDepth 20000 in
theorem qItem_guardN {z rb tb : Nat} {LL : List Tk} {c : Int} {o : Nat} (hz : z ≤ 9223372036854775807) {E A : Rdf} (HE : RdC z rb tb LL c o 22 E) {S : Sr} (n0 : isR k_metric S = false) (n1 : isR k_reps S = false) (n2 : isR k_cooldown S = false) (n3 : isR k_let S = false) (y : isR k_guard S = true) (u : (mustR c k_then (E (adv S)).2).good = false) (w : World) (hr : Rr z w rb tb LL c S o) :
    Calls Tryz.prog 18 #[.pointer (some ⟨rb, 0, none⟩)] w (IqP z w rb tb LL c o ((guardR c E A (hdT S.L).at_ (adv S)).1, mustR c k_sem (guardR c E A (hdT S.L).at_ (adv S)).2)) := by
  obtain ⟨R, hR⟩ : ∃ R, Hid (R = ((guardR c E A (hdT S.L).at_ (adv S)).1, mustR c k_sem (guardR c E A (hdT S.L).at_ (adv S)).2)) := ⟨_, rfl⟩
  rw [← hR.out]
  have hP : Hid (∀ w' Y i vx vy S', Y = (itC i vx vy).toArray → Turn [rb] w w' → Rr z w' rb tb LL c S' o → ItB w.heap.size z w' i vx vy → R = (i, S') → IqP z w rb tb LL c o R (.returned (.agg Y)) w') := fun w' Y i vx vy S' h0 h1 h2 h3 h4 => ⟨h1, ⟨vx, vy, by rw [h4, h0], by rw [h4]; exact h3⟩, by rw [h4]; exact h2⟩
  generalize IqP z w rb tb LL c o R = Post at *
  have hl0 := hr.lts
  have hat := hr.tl.ok.a
  have hz0 := hid2 hz
  have fl1 := fld1
  have fl2 := fld2
  obtain ⟨m, hm19⟩ : ∃ m : Nat, Hid (m = 19) := ⟨_, rfl⟩
  have zs : ∀ w, (sizeOf 53).run Tryz.prog w = .ok m w := by rw [hm19.out]; exact Tryz.sizeOf53
  have zm : (19 = m) = True := eq_true hm19.out.symm
  have R0 := hid2 (hr.next ((Below.refl _ _).alloc (Nat.le_refl _) (.cells zs19.toArray 53)))
  have R1 := hid2 hr
  obtain ⟨X, hX⟩ : ∃ X : Array Value, Hid (X = (itC (it0 0 ((hdT S.L).at_ : Int)) (.slice none 0 0) (.slice none 0 0)).toArray) := ⟨_, rfl⟩
  have stX := fun W => st_it W (X := X) (by rw [hX.out]; rfl) (by rw [hX.out]; kernel_rfl)
  unfold zeroI at stX
  have sX : X.size = 19 := by rw [hX.out]; rfl
  clear hr hz
  go_enter Tryz.func18, Tryz.ntmps18
  go_wp2_with fail
  refine Calls.mono (qAt_c _ R0.out) ?_
  rintro e w1 ⟨rfl, b1⟩
  have HC0 := hid2 (ImS.made R1.out b1 ((hdT S.L).at_ : Int))
  rw [← hX.out] at HC0
  clear b1 R0 R1
  go_wp2_with (refine wpList_it8 rfl _ rfl ((hdT S.L).at_ : Int) rfl X hX.out ?_)
  clear stX sX
  obtain ⟨g, hgg⟩ : ∃ g : Nat, Hid (g = w1.heap.size) := ⟨_, rfl⟩
  rw [← hgg.out] at HC0 ⊢
  generalize hW1 : w1.alloc _ = W1 at *
  clear hW1 hX hgg
  refine Calls.mono (qMay_c k_metric ⟨ba_neL [40] (by decide), ba_neL [123] (by decide), ba_neL [41] (by decide), ba_neL [125] (by decide)⟩ _ HC0.out.re) ?_
  rintro e w11 ⟨rfl, t2, r2⟩
  have HC1 := hid2 (HC0.out.turn t2 r2)
  clear t2 r2 HC0
  rw [n0]
  rw [may_not n0] at HC1
  go_wp2_with fail
  refine Calls.mono (qMay_c k_reps ⟨ba_neL [40] (by decide), ba_neL [123] (by decide), ba_neL [41] (by decide), ba_neL [125] (by decide)⟩ _ HC1.out.re) ?_
  rintro e w12 ⟨rfl, t2, r2⟩
  have HC2 := hid2 (HC1.out.turn t2 r2)
  clear t2 r2 HC1
  rw [n1]
  rw [may_not n1] at HC2
  go_wp2_with fail
  refine Calls.mono (qMay_c k_cooldown ⟨ba_neL [40] (by decide), ba_neL [123] (by decide), ba_neL [41] (by decide), ba_neL [125] (by decide)⟩ _ HC2.out.re) ?_
  rintro e w13 ⟨rfl, t2, r2⟩
  have HC3 := hid2 (HC2.out.turn t2 r2)
  clear t2 r2 HC2
  rw [n2]
  rw [may_not n2] at HC3
  go_wp2_with fail
  refine Calls.mono (qMay_c k_let ⟨ba_neL [40] (by decide), ba_neL [123] (by decide), ba_neL [41] (by decide), ba_neL [125] (by decide)⟩ _ HC3.out.re) ?_
  rintro e w14 ⟨rfl, t2, r2⟩
  have HC4 := hid2 (HC3.out.turn t2 r2)
  clear t2 r2 HC3
  rw [n3]
  rw [may_not n3] at HC4
  go_wp2_with fail
  refine Calls.mono (qMay_c k_guard ⟨ba_neL [40] (by decide), ba_neL [123] (by decide), ba_neL [41] (by decide), ba_neL [125] (by decide)⟩ _ HC4.out.re) ?_
  rintro e w15 ⟨rfl, t2, r2⟩
  have HC5 := hid2 (HC4.out.turn t2 r2)
  clear t2 r2 HC4
  rw [y]
  rw [may_adv y] at HC5
  have c0 := HC5.out.lt.cell 0 _ rfl
  have f0 := HC5.out.lt.free 0 (by simp)
  have cl := HC5.out.lt.lt
  have HC6 := hid2 (HC5.out.set 0 (.int .i64 6) ⟨6, ⟨#[]⟩, ⟨#[]⟩, 0, 0, 0, nilM, nilM, ((hdT S.L).at_ : Int)⟩ (by decide) rfl rfl rfl HC5.out.nm HC5.out.un)
  go_wp2_with fail
  clear cl c0 f0 HC5
  refine Calls.mono (HE (adv S) _ HC6.out.re) ?_
  rintro e w17 ⟨t4, ⟨v, rfl, u7, rfl, s4⟩, r4⟩
  have HC7 := hid2 (HC6.out.turn t4 r4)
  have hsz7 := HC6.out.lt.lt
  have hgg7 := HC6.out.gg
  have S7x : Hid (SitQ (fun b => w.heap.size < b ∧ b ≠ g) z w17 (E (adv S)).1 u7) := s4.weak (fun b _ hb => by have hb' : _ ≤ b := hb; omega)
  clear HC6
  obtain ⟨ad7, cp7, rfl, -, -⟩ := s4.parts.shape
  simp only [tmV]
  clear t4 r4 s4
  obtain ⟨x0, x1, x2, x3, x4, x5, y0, y1, y2, y3, y4, y5⟩ := HC7.out.lt.cells_at 6 _ _ _ _ _ _ rfl rfl rfl rfl rfl rfl
  have xl := HC7.out.lt.lt
  have HC8 := hid2 (HC7.out.setX S7x.out)
  go_wp2_with fail
  clear HC7 S7x hsz7 hgg7 xl x0 x1 x2 x3 x4 x5 y0 y1 y2 y3 y4 y5
  refine Calls.mono (qMust_c k_then ⟨ba_neL [40] (by decide), ba_neL [123] (by decide), ba_neL [41] (by decide), ba_neL [125] (by decide)⟩ _ HC8.out.re) ?_
  rintro e w19 ⟨rfl, t2, r2⟩
  have HC9 := hid2 (HC8.out.turn t2 r2)
  clear t2 r2 HC8
  obtain ⟨er, e4, el, eg⟩ := HC9.out.re.errc
  rw [u] at eg
  have er0 : ¬ er = 0 := by intro h; rw [h] at eg; simp at eg
  have k0 : (er == 0) = false := by simpa using er0
  clear eg
  go_wp2_with fail
  clear e4 el
  refine Calls.mono (qMust_c k_sem ⟨ba_neL [40] (by decide), ba_neL [123] (by decide), ba_neL [41] (by decide), ba_neL [125] (by decide)⟩ _ HC9.out.re) ?_
  rintro e w20 ⟨rfl, t2, r2⟩
  have HC10 := hid2 (HC9.out.turn t2 r2)
  clear t2 r2 HC9
  obtain ⟨Y, hY⟩ : ∃ Y : Array Value, Hid (Y = (itC ⟨6, ⟨#[]⟩, ⟨#[]⟩, 0, 0, 0, (E (adv S)).1, nilM, ((hdT S.L).at_ : Int)⟩ (.slice ad7 (E (adv S)).1.parts.length cp7) (.slice none 0 0)).toArray) := ⟨_, rfl⟩
  have sY : Y.size = 19 := by rw [hY.out]; rfl
  have ldY := ld_row (X := Y) HC10.out.lt (by rw [hY.out]) (n := m) hm19.out
  have one0 : Y.all (·.oneCell') = true := by rw [hY.out]; exact HC10.out.one
  have one : ∀ v ∈ Y.toList, v.oneCell' = true := fun v hv => Array.all_eq_true_iff_forall_mem.1 one0 v (by simpa using hv)
  have stY := st_at w.heap.size Y.toList 0 w20 _ HC10.out.rs (by simp [sY]) one
  have TF := hid2 (putRow_turn w.heap.size Y.toList 0 w20)
  have BF := putRow_whole HC10.out.rs (X := Y.toList) (by simp [sY])
  have ldF := ld_row (X := Y) BF rfl (n := m) (by simp [sY, hm19.out])
  have xl := HC10.out.lt.lt
  have pl := HC10.out.rs.lt
  have hgx := HC10.out.gg
  clear BF one one0
  generalize hWF : putRow w20 w.heap.size 0 Y.toList = WF at *
  clear hWF
  go_wp2_with fail
  refine bodyPost_ret (v := .agg Y) (by simp [results, Tryz.results18, go_sem, *]) rfl (hP.out _ Y ⟨6, ⟨#[]⟩, ⟨#[]⟩, 0, 0, 0, (E (adv S)).1, nilM, ((hdT S.L).at_ : Int)⟩ (.slice ad7 (E (adv S)).1.parts.length cp7) (.slice none 0 0) (mustR c k_sem (mustR c k_then (E (adv S)).2)) hY.out ?_ ?_ (HC10.out.itb TF.out) (by rw [hR.out]; unfold guardR okR; rw [if_neg (by rw [u]; simp)]; rfl))
  · exact HC10.out.tn.trans TF.out (fun i hi => .inr (by simp at hi; omega))
  · exact HC10.out.re.turn TF.out (by simp; omega) (by simp; omega)
end Go.Proofs.YtecdfnpbcabdnaaGreatDoor

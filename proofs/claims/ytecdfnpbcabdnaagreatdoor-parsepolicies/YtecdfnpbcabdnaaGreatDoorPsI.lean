/- The document's reader in memory: the item that decides. -/
import Derived.Test.YtecdfnpbcabdnaaGreatDoorPsC
namespace Go.Proofs.YtecdfnpbcabdnaaGreatDoor
open Go.RowKit Go.Lib

set_option maxHeartbeats 16000000 in
set_option maxRecDepth 20000 in
theorem qItem_decideY {z rb tb : Nat} {LL : List Tk} {c : Int} {o : Nat} (hz : z ≤ 9223372036854775807) {A : Rdf} (HA : RdC z rb tb LL c o 34 A) {S : Sr} (n0 : isR k_metric S = false) (n1 : isR k_reps S = false) (n2 : isR k_cooldown S = false) (n3 : isR k_let S = false) (n4 : isR k_guard S = false) (u : (mustR c k_decide S).good = true) (w : World) (hr : Rr z w rb tb LL c S o) :
    Calls Tryz.prog 18 #[.pointer (some ⟨rb, 0, none⟩)] w (IqP z w rb tb LL c o ((decideR c A (hdT S.L).at_ S).1, mustR c k_sem (decideR c A (hdT S.L).at_ S).2)) := by
  obtain ⟨R, hR⟩ : ∃ R, Hid (R = ((decideR c A (hdT S.L).at_ S).1, mustR c k_sem (decideR c A (hdT S.L).at_ S).2)) := ⟨_, rfl⟩
  rw [← hR.out]
  have hP : Hid (∀ w' Y i vx vy S', Y = (itC i vx vy).toArray → Turn [rb] w w' → Rr z w' rb tb LL c S' o → ItB w.heap.size z w' i vx vy → R = (i, S') → IqP z w rb tb LL c o R (.returned (.agg Y)) w') := fun w' Y i vx vy S' h0 h1 h2 h3 h4 => ⟨h1, ⟨vx, vy, by rw [h4, h0], by rw [h4]; exact h3⟩, by rw [h4]; exact h2⟩
  generalize IqP z w rb tb LL c o R = Post at *
  have hl0 := hr.lts
  have hat := hr.tl.ok.a
  have hz0 := hid2 hz
  have fl1 := fld1
  have fl2 := fld2
  obtain ⟨m, hm19⟩ : ∃ m : Nat, Hid (m = 19) := ⟨_, rfl⟩
  have zs : ∀ w, (sizeOf 53).run Tryz.prog w = .ok m w := by rw [hm19.out]; exact Tryz.sizeOf53
  have zm : (19 = m) = True := eq_true hm19.out.symm
  have R0 := hid2 (hr.next ((Below.refl _ _).alloc (Nat.le_refl _) (.cells zs19.toArray 53)))
  have R1 := hid2 hr
  obtain ⟨X, hX⟩ : ∃ X : Array Value, Hid (X = (itC (it0 0 ((hdT S.L).at_ : Int)) (.slice none 0 0) (.slice none 0 0)).toArray) := ⟨_, rfl⟩
  have stX := fun W => st_it W (X := X) (by rw [hX.out]; rfl) (by rw [hX.out]; kernel_rfl)
  unfold zeroI at stX
  have sX : X.size = 19 := by rw [hX.out]; rfl
  clear hr hz
  go_enter Tryz.func18, Tryz.ntmps18
  go_wp2_with fail
  refine Calls.mono (qAt_c _ R0.out) ?_
  rintro e w1 ⟨rfl, b1⟩
  have HC0 := hid2 (ImS.made R1.out b1 ((hdT S.L).at_ : Int))
  rw [← hX.out] at HC0
  clear b1 R0 R1
  go_wp2_with (refine wpList_it8 rfl _ rfl ((hdT S.L).at_ : Int) rfl X hX.out ?_)
  clear stX sX
  obtain ⟨g, hgg⟩ : ∃ g : Nat, Hid (g = w1.heap.size) := ⟨_, rfl⟩
  rw [← hgg.out] at HC0 ⊢
  generalize hW1 : w1.alloc _ = W1 at *
  clear hW1 hX hgg
  refine Calls.mono (qMay_c k_metric ⟨ba_neL [40] (by decide), ba_neL [123] (by decide), ba_neL [41] (by decide), ba_neL [125] (by decide)⟩ _ HC0.out.re) ?_
  rintro e w11 ⟨rfl, t2, r2⟩
  have HC1 := hid2 (HC0.out.turn t2 r2)
  clear t2 r2 HC0
  rw [n0]
  rw [may_not n0] at HC1
  go_wp2_with fail
  refine Calls.mono (qMay_c k_reps ⟨ba_neL [40] (by decide), ba_neL [123] (by decide), ba_neL [41] (by decide), ba_neL [125] (by decide)⟩ _ HC1.out.re) ?_
  rintro e w12 ⟨rfl, t2, r2⟩
  have HC2 := hid2 (HC1.out.turn t2 r2)
  clear t2 r2 HC1
  rw [n1]
  rw [may_not n1] at HC2
  go_wp2_with fail
  refine Calls.mono (qMay_c k_cooldown ⟨ba_neL [40] (by decide), ba_neL [123] (by decide), ba_neL [41] (by decide), ba_neL [125] (by decide)⟩ _ HC2.out.re) ?_
  rintro e w13 ⟨rfl, t2, r2⟩
  have HC3 := hid2 (HC2.out.turn t2 r2)
  clear t2 r2 HC2
  rw [n2]
  rw [may_not n2] at HC3
  go_wp2_with fail
  refine Calls.mono (qMay_c k_let ⟨ba_neL [40] (by decide), ba_neL [123] (by decide), ba_neL [41] (by decide), ba_neL [125] (by decide)⟩ _ HC3.out.re) ?_
  rintro e w14 ⟨rfl, t2, r2⟩
  have HC4 := hid2 (HC3.out.turn t2 r2)
  clear t2 r2 HC3
  rw [n3]
  rw [may_not n3] at HC4
  go_wp2_with fail
  refine Calls.mono (qMay_c k_guard ⟨ba_neL [40] (by decide), ba_neL [123] (by decide), ba_neL [41] (by decide), ba_neL [125] (by decide)⟩ _ HC4.out.re) ?_
  rintro e w15 ⟨rfl, t2, r2⟩
  have HC5 := hid2 (HC4.out.turn t2 r2)
  clear t2 r2 HC4
  rw [n4]
  rw [may_not n4] at HC5
  have c0 := HC5.out.lt.cell 0 _ rfl
  have f0 := HC5.out.lt.free 0 (by simp)
  have cl := HC5.out.lt.lt
  have HC6 := hid2 (HC5.out.set 0 (.int .i64 7) ⟨7, ⟨#[]⟩, ⟨#[]⟩, 0, 0, 0, nilM, nilM, ((hdT S.L).at_ : Int)⟩ (by decide) rfl rfl rfl HC5.out.nm HC5.out.un)
  go_wp2_with fail
  clear cl c0 f0 HC5
  refine Calls.mono (qMust_c k_decide ⟨ba_neL [40] (by decide), ba_neL [123] (by decide), ba_neL [41] (by decide), ba_neL [125] (by decide)⟩ _ HC6.out.re) ?_
  rintro e w17 ⟨rfl, t2, r2⟩
  have HC7 := hid2 (HC6.out.turn t2 r2)
  clear t2 r2 HC6
  obtain ⟨er, e4, el, eg⟩ := HC7.out.re.errc
  rw [u] at eg
  obtain rfl : er = 0 := by simpa using eg.symm
  clear eg
  go_wp2_with fail
  clear e4 el
  refine Calls.mono (HA (mustR c k_decide S) _ HC7.out.re) ?_
  rintro e w18 ⟨t4, ⟨v, rfl, u8, rfl, s4⟩, r4⟩
  have HC8 := hid2 (HC7.out.turn t4 r4)
  have hsz8 := HC7.out.lt.lt
  have hgg8 := HC7.out.gg
  have S8x : Hid (SitQ (fun b => w.heap.size < b ∧ b ≠ g) z w18 (A (mustR c k_decide S)).1 u8) := s4.weak (fun b _ hb => by have hb' : _ ≤ b := hb; omega)
  clear HC7
  obtain ⟨ad8, cp8, rfl, -, -⟩ := s4.parts.shape
  simp only [tmV]
  clear t4 r4 s4
  obtain ⟨x0, x1, x2, x3, x4, x5, y0, y1, y2, y3, y4, y5⟩ := HC8.out.lt.cells_at 12 _ _ _ _ _ _ rfl rfl rfl rfl rfl rfl
  have xl := HC8.out.lt.lt
  have HC9 := hid2 (HC8.out.setY S8x.out)
  go_wp2_with fail
  clear HC8 S8x hsz8 hgg8 xl x0 x1 x2 x3 x4 x5 y0 y1 y2 y3 y4 y5
  refine Calls.mono (qMust_c k_sem ⟨ba_neL [40] (by decide), ba_neL [123] (by decide), ba_neL [41] (by decide), ba_neL [125] (by decide)⟩ _ HC9.out.re) ?_
  rintro e w20 ⟨rfl, t2, r2⟩
  have HC10 := hid2 (HC9.out.turn t2 r2)
  clear t2 r2 HC9
  obtain ⟨Y, hY⟩ : ∃ Y : Array Value, Hid (Y = (itC ⟨7, ⟨#[]⟩, ⟨#[]⟩, 0, 0, 0, nilM, (A (mustR c k_decide S)).1, ((hdT S.L).at_ : Int)⟩ (.slice none 0 0) (.slice ad8 (A (mustR c k_decide S)).1.parts.length cp8)).toArray) := ⟨_, rfl⟩
  have sY : Y.size = 19 := by rw [hY.out]; rfl
  have ldY := ld_row (X := Y) HC10.out.lt (by rw [hY.out]) (n := m) hm19.out
  have one0 : Y.all (·.oneCell') = true := by rw [hY.out]; exact HC10.out.one
  have one : ∀ v ∈ Y.toList, v.oneCell' = true := fun v hv => Array.all_eq_true_iff_forall_mem.1 one0 v (by simpa using hv)
  have stY := st_at w.heap.size Y.toList 0 w20 _ HC10.out.rs (by simp [sY]) one
  have TF := hid2 (putRow_turn w.heap.size Y.toList 0 w20)
  have BF := putRow_whole HC10.out.rs (X := Y.toList) (by simp [sY])
  have ldF := ld_row (X := Y) BF rfl (n := m) (by simp [sY, hm19.out])
  have xl := HC10.out.lt.lt
  have pl := HC10.out.rs.lt
  have hgx := HC10.out.gg
  clear BF one one0
  generalize hWF : putRow w20 w.heap.size 0 Y.toList = WF at *
  clear hWF
  go_wp2_with fail
  refine bodyPost_ret (v := .agg Y) (by simp [results, Tryz.results18, go_sem, *]) rfl (hP.out _ Y ⟨7, ⟨#[]⟩, ⟨#[]⟩, 0, 0, 0, nilM, (A (mustR c k_decide S)).1, ((hdT S.L).at_ : Int)⟩ (.slice none 0 0) (.slice ad8 (A (mustR c k_decide S)).1.parts.length cp8) (mustR c k_sem (A (mustR c k_decide S)).2) hY.out ?_ ?_ (HC10.out.itb TF.out) (by rw [hR.out]; unfold decideR okR; rw [if_pos u]; rfl))
  · exact HC10.out.tn.trans TF.out (fun i hi => .inr (by simp at hi; omega))
  · exact HC10.out.re.turn TF.out (by simp; omega) (by simp; omega)
set_option maxHeartbeats 16000000 in
set_option maxRecDepth 20000 in
theorem qItem_decideN {z rb tb : Nat} {LL : List Tk} {c : Int} {o : Nat} (hz : z ≤ 9223372036854775807) {A : Rdf} {S : Sr} (n0 : isR k_metric S = false) (n1 : isR k_reps S = false) (n2 : isR k_cooldown S = false) (n3 : isR k_let S = false) (n4 : isR k_guard S = false) (u : (mustR c k_decide S).good = false) (w : World) (hr : Rr z w rb tb LL c S o) :
    Calls Tryz.prog 18 #[.pointer (some ⟨rb, 0, none⟩)] w (IqP z w rb tb LL c o ((decideR c A (hdT S.L).at_ S).1, mustR c k_sem (decideR c A (hdT S.L).at_ S).2)) := by
  obtain ⟨R, hR⟩ : ∃ R, Hid (R = ((decideR c A (hdT S.L).at_ S).1, mustR c k_sem (decideR c A (hdT S.L).at_ S).2)) := ⟨_, rfl⟩
  rw [← hR.out]
  have hP : Hid (∀ w' Y i vx vy S', Y = (itC i vx vy).toArray → Turn [rb] w w' → Rr z w' rb tb LL c S' o → ItB w.heap.size z w' i vx vy → R = (i, S') → IqP z w rb tb LL c o R (.returned (.agg Y)) w') := fun w' Y i vx vy S' h0 h1 h2 h3 h4 => ⟨h1, ⟨vx, vy, by rw [h4, h0], by rw [h4]; exact h3⟩, by rw [h4]; exact h2⟩
  generalize IqP z w rb tb LL c o R = Post at *
  have hl0 := hr.lts
  have hat := hr.tl.ok.a
  have hz0 := hid2 hz
  have fl1 := fld1
  have fl2 := fld2
  obtain ⟨m, hm19⟩ : ∃ m : Nat, Hid (m = 19) := ⟨_, rfl⟩
  have zs : ∀ w, (sizeOf 53).run Tryz.prog w = .ok m w := by rw [hm19.out]; exact Tryz.sizeOf53
  have zm : (19 = m) = True := eq_true hm19.out.symm
  have R0 := hid2 (hr.next ((Below.refl _ _).alloc (Nat.le_refl _) (.cells zs19.toArray 53)))
  have R1 := hid2 hr
  obtain ⟨X, hX⟩ : ∃ X : Array Value, Hid (X = (itC (it0 0 ((hdT S.L).at_ : Int)) (.slice none 0 0) (.slice none 0 0)).toArray) := ⟨_, rfl⟩
  have stX := fun W => st_it W (X := X) (by rw [hX.out]; rfl) (by rw [hX.out]; kernel_rfl)
  unfold zeroI at stX
  have sX : X.size = 19 := by rw [hX.out]; rfl
  clear hr hz
  go_enter Tryz.func18, Tryz.ntmps18
  go_wp2_with fail
  refine Calls.mono (qAt_c _ R0.out) ?_
  rintro e w1 ⟨rfl, b1⟩
  have HC0 := hid2 (ImS.made R1.out b1 ((hdT S.L).at_ : Int))
  rw [← hX.out] at HC0
  clear b1 R0 R1
  go_wp2_with (refine wpList_it8 rfl _ rfl ((hdT S.L).at_ : Int) rfl X hX.out ?_)
  clear stX sX
  obtain ⟨g, hgg⟩ : ∃ g : Nat, Hid (g = w1.heap.size) := ⟨_, rfl⟩
  rw [← hgg.out] at HC0 ⊢
  generalize hW1 : w1.alloc _ = W1 at *
  clear hW1 hX hgg
  refine Calls.mono (qMay_c k_metric ⟨ba_neL [40] (by decide), ba_neL [123] (by decide), ba_neL [41] (by decide), ba_neL [125] (by decide)⟩ _ HC0.out.re) ?_
  rintro e w11 ⟨rfl, t2, r2⟩
  have HC1 := hid2 (HC0.out.turn t2 r2)
  clear t2 r2 HC0
  rw [n0]
  rw [may_not n0] at HC1
  go_wp2_with fail
  refine Calls.mono (qMay_c k_reps ⟨ba_neL [40] (by decide), ba_neL [123] (by decide), ba_neL [41] (by decide), ba_neL [125] (by decide)⟩ _ HC1.out.re) ?_
  rintro e w12 ⟨rfl, t2, r2⟩
  have HC2 := hid2 (HC1.out.turn t2 r2)
  clear t2 r2 HC1
  rw [n1]
  rw [may_not n1] at HC2
  go_wp2_with fail
  refine Calls.mono (qMay_c k_cooldown ⟨ba_neL [40] (by decide), ba_neL [123] (by decide), ba_neL [41] (by decide), ba_neL [125] (by decide)⟩ _ HC2.out.re) ?_
  rintro e w13 ⟨rfl, t2, r2⟩
  have HC3 := hid2 (HC2.out.turn t2 r2)
  clear t2 r2 HC2
  rw [n2]
  rw [may_not n2] at HC3
  go_wp2_with fail
  refine Calls.mono (qMay_c k_let ⟨ba_neL [40] (by decide), ba_neL [123] (by decide), ba_neL [41] (by decide), ba_neL [125] (by decide)⟩ _ HC3.out.re) ?_
  rintro e w14 ⟨rfl, t2, r2⟩
  have HC4 := hid2 (HC3.out.turn t2 r2)
  clear t2 r2 HC3
  rw [n3]
  rw [may_not n3] at HC4
  go_wp2_with fail
  refine Calls.mono (qMay_c k_guard ⟨ba_neL [40] (by decide), ba_neL [123] (by decide), ba_neL [41] (by decide), ba_neL [125] (by decide)⟩ _ HC4.out.re) ?_
  rintro e w15 ⟨rfl, t2, r2⟩
  have HC5 := hid2 (HC4.out.turn t2 r2)
  clear t2 r2 HC4
  rw [n4]
  rw [may_not n4] at HC5
  have c0 := HC5.out.lt.cell 0 _ rfl
  have f0 := HC5.out.lt.free 0 (by simp)
  have cl := HC5.out.lt.lt
  have HC6 := hid2 (HC5.out.set 0 (.int .i64 7) ⟨7, ⟨#[]⟩, ⟨#[]⟩, 0, 0, 0, nilM, nilM, ((hdT S.L).at_ : Int)⟩ (by decide) rfl rfl rfl HC5.out.nm HC5.out.un)
  go_wp2_with fail
  clear cl c0 f0 HC5
  refine Calls.mono (qMust_c k_decide ⟨ba_neL [40] (by decide), ba_neL [123] (by decide), ba_neL [41] (by decide), ba_neL [125] (by decide)⟩ _ HC6.out.re) ?_
  rintro e w17 ⟨rfl, t2, r2⟩
  have HC7 := hid2 (HC6.out.turn t2 r2)
  clear t2 r2 HC6
  obtain ⟨er, e4, el, eg⟩ := HC7.out.re.errc
  rw [u] at eg
  have er0 : ¬ er = 0 := by intro h; rw [h] at eg; simp at eg
  have k0 : (er == 0) = false := by simpa using er0
  clear eg
  go_wp2_with fail
  clear e4 el
  refine Calls.mono (qMust_c k_sem ⟨ba_neL [40] (by decide), ba_neL [123] (by decide), ba_neL [41] (by decide), ba_neL [125] (by decide)⟩ _ HC7.out.re) ?_
  rintro e w18 ⟨rfl, t2, r2⟩
  have HC8 := hid2 (HC7.out.turn t2 r2)
  clear t2 r2 HC7
  obtain ⟨Y, hY⟩ : ∃ Y : Array Value, Hid (Y = (itC ⟨7, ⟨#[]⟩, ⟨#[]⟩, 0, 0, 0, nilM, nilM, ((hdT S.L).at_ : Int)⟩ (.slice none 0 0) (.slice none 0 0)).toArray) := ⟨_, rfl⟩
  have sY : Y.size = 19 := by rw [hY.out]; rfl
  have ldY := ld_row (X := Y) HC8.out.lt (by rw [hY.out]) (n := m) hm19.out
  have one0 : Y.all (·.oneCell') = true := by rw [hY.out]; exact HC8.out.one
  have one : ∀ v ∈ Y.toList, v.oneCell' = true := fun v hv => Array.all_eq_true_iff_forall_mem.1 one0 v (by simpa using hv)
  have stY := st_at w.heap.size Y.toList 0 w18 _ HC8.out.rs (by simp [sY]) one
  have TF := hid2 (putRow_turn w.heap.size Y.toList 0 w18)
  have BF := putRow_whole HC8.out.rs (X := Y.toList) (by simp [sY])
  have ldF := ld_row (X := Y) BF rfl (n := m) (by simp [sY, hm19.out])
  have xl := HC8.out.lt.lt
  have pl := HC8.out.rs.lt
  have hgx := HC8.out.gg
  clear BF one one0
  generalize hWF : putRow w18 w.heap.size 0 Y.toList = WF at *
  clear hWF
  go_wp2_with fail
  refine bodyPost_ret (v := .agg Y) (by simp [results, Tryz.results18, go_sem, *]) rfl (hP.out _ Y ⟨7, ⟨#[]⟩, ⟨#[]⟩, 0, 0, 0, nilM, nilM, ((hdT S.L).at_ : Int)⟩ (.slice none 0 0) (.slice none 0 0) (mustR c k_sem (mustR c k_decide S)) hY.out ?_ ?_ (HC8.out.itb TF.out) (by rw [hR.out]; unfold decideR okR; rw [if_neg (by rw [u]; simp)]; rfl))
  · exact HC8.out.tn.trans TF.out (fun i hi => .inr (by simp at hi; omega))
  · exact HC8.out.re.turn TF.out (by simp; omega) (by simp; omega)
end Go.Proofs.YtecdfnpbcabdnaaGreatDoor

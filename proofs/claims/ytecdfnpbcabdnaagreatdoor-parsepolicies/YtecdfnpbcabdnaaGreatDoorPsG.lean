/- The document's reader in memory: the items of replicas. -/
import Derived.Test.YtecdfnpbcabdnaaGreatDoorPsC
namespace Go.Proofs.YtecdfnpbcabdnaaGreatDoor
open Go.RowKit Go.Lib

set_option maxHeartbeats 16000000 in
set_option maxRecDepth 20000 in
theorem qItem_repsY {z rb tb : Nat} {LL : List Tk} {c : Int} {o : Nat} (hz : z ≤ 9223372036854775807) {S : Sr} (n0 : isR k_metric S = false) (y : isR k_reps S = true) (u : isR k_step (takeR c 2 (mustR c k_dots (takeR c 2 (adv S)).2)).2 = true) (w : World) (hr : Rr z w rb tb LL c S o) :
    Calls Tryz.prog 18 #[.pointer (some ⟨rb, 0, none⟩)] w (IqP z w rb tb LL c o ((repsR c (hdT S.L).at_ (adv S)).1, mustR c k_sem (repsR c (hdT S.L).at_ (adv S)).2)) := by
  obtain ⟨R, hR⟩ : ∃ R, Hid (R = ((repsR c (hdT S.L).at_ (adv S)).1, mustR c k_sem (repsR c (hdT S.L).at_ (adv S)).2)) := ⟨_, rfl⟩
  rw [← hR.out]
  have hP : Hid (∀ w' Y i vx vy S', Y = (itC i vx vy).toArray → Turn [rb] w w' → Rr z w' rb tb LL c S' o → ItB w.heap.size z w' i vx vy → R = (i, S') → IqP z w rb tb LL c o R (.returned (.agg Y)) w') := fun w' Y i vx vy S' h0 h1 h2 h3 h4 => ⟨h1, ⟨vx, vy, by rw [h4, h0], by rw [h4]; exact h3⟩, by rw [h4]; exact h2⟩
  generalize IqP z w rb tb LL c o R = Post at *
  have hl0 := hr.lts
  have hat := hr.tl.ok.a
  have hz0 := hid2 hz
  have fl1 := fld1
  have fl2 := fld2
  obtain ⟨m, hm19⟩ : ∃ m : Nat, Hid (m = 19) := ⟨_, rfl⟩
  have zs : ∀ w, (sizeOf 53).run Tryz.prog w = .ok m w := by rw [hm19.out]; exact Tryz.sizeOf53
  have zm : (19 = m) = True := eq_true hm19.out.symm
  have R0 := hid2 (hr.next ((Below.refl _ _).alloc (Nat.le_refl _) (.cells zs19.toArray 53)))
  have R1 := hid2 hr
  obtain ⟨X, hX⟩ : ∃ X : Array Value, Hid (X = (itC (it0 0 ((hdT S.L).at_ : Int)) (.slice none 0 0) (.slice none 0 0)).toArray) := ⟨_, rfl⟩
  have stX := fun W => st_it W (X := X) (by rw [hX.out]; rfl) (by rw [hX.out]; kernel_rfl)
  unfold zeroI at stX
  have sX : X.size = 19 := by rw [hX.out]; rfl
  clear hr hz
  go_enter Tryz.func18, Tryz.ntmps18
  go_wp2_with fail
  refine Calls.mono (qAt_c _ R0.out) ?_
  rintro e w1 ⟨rfl, b1⟩
  have HC0 := hid2 (ImS.made R1.out b1 ((hdT S.L).at_ : Int))
  rw [← hX.out] at HC0
  clear b1 R0 R1
  go_wp2_with (refine wpList_it8 rfl _ rfl ((hdT S.L).at_ : Int) rfl X hX.out ?_)
  clear stX sX
  obtain ⟨g, hgg⟩ : ∃ g : Nat, Hid (g = w1.heap.size) := ⟨_, rfl⟩
  rw [← hgg.out] at HC0 ⊢
  generalize hW1 : w1.alloc _ = W1 at *
  clear hW1 hX hgg
  refine Calls.mono (qMay_c k_metric ⟨ba_neL [40] (by decide), ba_neL [123] (by decide), ba_neL [41] (by decide), ba_neL [125] (by decide)⟩ _ HC0.out.re) ?_
  rintro e w11 ⟨rfl, t2, r2⟩
  have HC1 := hid2 (HC0.out.turn t2 r2)
  clear t2 r2 HC0
  rw [n0]
  rw [may_not n0] at HC1
  go_wp2_with fail
  refine Calls.mono (qMay_c k_reps ⟨ba_neL [40] (by decide), ba_neL [123] (by decide), ba_neL [41] (by decide), ba_neL [125] (by decide)⟩ _ HC1.out.re) ?_
  rintro e w12 ⟨rfl, t2, r2⟩
  have HC2 := hid2 (HC1.out.turn t2 r2)
  clear t2 r2 HC1
  rw [y]
  rw [may_adv y] at HC2
  have c0 := HC2.out.lt.cell 0 _ rfl
  have f0 := HC2.out.lt.free 0 (by simp)
  have cl := HC2.out.lt.lt
  have HC3 := hid2 (HC2.out.set 0 (.int .i64 2) ⟨2, ⟨#[]⟩, ⟨#[]⟩, 0, 0, 0, nilM, nilM, ((hdT S.L).at_ : Int)⟩ (by decide) rfl rfl rfl HC2.out.nm HC2.out.un)
  go_wp2_with fail
  clear cl c0 f0 HC2
  refine Calls.mono (qTake_c 2 (by decide) _ HC3.out.re) ?_
  rintro e w14 ⟨rfl, t2, r2⟩
  have Hk4 := hid2 (take_tk (c := c) (k := 2) HC3.out.re.tl)
  have HC4 := hid2 (HC3.out.turn t2 r2)
  clear t2 r2 HC3
  simp only [tkW]
  obtain ⟨tk4, htk4⟩ : ∃ tk, Hid (tk = (takeR c 2 (adv S)).1) := ⟨_, rfl⟩
  rw [← htk4.out] at Hk4 ⊢
  have c3 := HC4.out.lt.cell 3 _ rfl
  have f3 := HC4.out.lt.free 3 (by simp)
  have cl := HC4.out.lt.lt
  have HC5 := hid2 (HC4.out.set 3 (.int .i64 tk4.n) ⟨2, ⟨#[]⟩, ⟨#[]⟩, tk4.n, 0, 0, nilM, nilM, ((hdT S.L).at_ : Int)⟩ (by decide) rfl rfl rfl HC4.out.nm HC4.out.un)
  go_wp2_with fail
  clear cl c3 f3 HC4
  refine Calls.mono (qMust_c k_dots ⟨ba_neL [40] (by decide), ba_neL [123] (by decide), ba_neL [41] (by decide), ba_neL [125] (by decide)⟩ _ HC5.out.re) ?_
  rintro e w16 ⟨rfl, t2, r2⟩
  have HC6 := hid2 (HC5.out.turn t2 r2)
  clear t2 r2 HC5
  go_wp2_with fail
  refine Calls.mono (qTake_c 2 (by decide) _ HC6.out.re) ?_
  rintro e w17 ⟨rfl, t2, r2⟩
  have Hk7 := hid2 (take_tk (c := c) (k := 2) HC6.out.re.tl)
  have HC7 := hid2 (HC6.out.turn t2 r2)
  clear t2 r2 HC6
  simp only [tkW]
  obtain ⟨tk7, htk7⟩ : ∃ tk, Hid (tk = (takeR c 2 (mustR c k_dots (takeR c 2 (adv S)).2)).1) := ⟨_, rfl⟩
  rw [← htk7.out] at Hk7 ⊢
  have c4 := HC7.out.lt.cell 4 _ rfl
  have f4 := HC7.out.lt.free 4 (by simp)
  have cl := HC7.out.lt.lt
  have HC8 := hid2 (HC7.out.set 4 (.int .i64 tk7.n) ⟨2, ⟨#[]⟩, ⟨#[]⟩, tk4.n, tk7.n, 0, nilM, nilM, ((hdT S.L).at_ : Int)⟩ (by decide) rfl rfl rfl HC7.out.nm HC7.out.un)
  go_wp2_with fail
  clear cl c4 f4 HC7
  refine Calls.mono (qMay_c k_step ⟨ba_neL [40] (by decide), ba_neL [123] (by decide), ba_neL [41] (by decide), ba_neL [125] (by decide)⟩ _ HC8.out.re) ?_
  rintro e w19 ⟨rfl, t2, r2⟩
  have HC9 := hid2 (HC8.out.turn t2 r2)
  clear t2 r2 HC8
  rw [u]
  rw [may_adv u] at HC9
  go_wp2_with fail
  refine Calls.mono (qTake_c 2 (by decide) _ HC9.out.re) ?_
  rintro e w20 ⟨rfl, t2, r2⟩
  have Hk10 := hid2 (take_tk (c := c) (k := 2) HC9.out.re.tl)
  have HC10 := hid2 (HC9.out.turn t2 r2)
  clear t2 r2 HC9
  simp only [tkW]
  obtain ⟨tk10, htk10⟩ : ∃ tk, Hid (tk = (takeR c 2 (adv (takeR c 2 (mustR c k_dots (takeR c 2 (adv S)).2)).2)).1) := ⟨_, rfl⟩
  rw [← htk10.out] at Hk10 ⊢
  have c5 := HC10.out.lt.cell 5 _ rfl
  have f5 := HC10.out.lt.free 5 (by simp)
  have cl := HC10.out.lt.lt
  have HC11 := hid2 (HC10.out.set 5 (.int .i64 tk10.n) ⟨2, ⟨#[]⟩, ⟨#[]⟩, tk4.n, tk7.n, tk10.n, nilM, nilM, ((hdT S.L).at_ : Int)⟩ (by decide) rfl rfl rfl HC10.out.nm HC10.out.un)
  go_wp2_with fail
  clear cl c5 f5 HC10
  refine Calls.mono (qMust_c k_sem ⟨ba_neL [40] (by decide), ba_neL [123] (by decide), ba_neL [41] (by decide), ba_neL [125] (by decide)⟩ _ HC11.out.re) ?_
  rintro e w22 ⟨rfl, t2, r2⟩
  have HC12 := hid2 (HC11.out.turn t2 r2)
  clear t2 r2 HC11
  obtain ⟨Y, hY⟩ : ∃ Y : Array Value, Hid (Y = (itC ⟨2, ⟨#[]⟩, ⟨#[]⟩, tk4.n, tk7.n, tk10.n, nilM, nilM, ((hdT S.L).at_ : Int)⟩ (.slice none 0 0) (.slice none 0 0)).toArray) := ⟨_, rfl⟩
  have sY : Y.size = 19 := by rw [hY.out]; rfl
  have ldY := ld_row (X := Y) HC12.out.lt (by rw [hY.out]) (n := m) hm19.out
  have one0 : Y.all (·.oneCell') = true := by rw [hY.out]; exact HC12.out.one
  have one : ∀ v ∈ Y.toList, v.oneCell' = true := fun v hv => Array.all_eq_true_iff_forall_mem.1 one0 v (by simpa using hv)
  have stY := st_at w.heap.size Y.toList 0 w22 _ HC12.out.rs (by simp [sY]) one
  have TF := hid2 (putRow_turn w.heap.size Y.toList 0 w22)
  have BF := putRow_whole HC12.out.rs (X := Y.toList) (by simp [sY])
  have ldF := ld_row (X := Y) BF rfl (n := m) (by simp [sY, hm19.out])
  have xl := HC12.out.lt.lt
  have pl := HC12.out.rs.lt
  have hgx := HC12.out.gg
  clear BF one one0
  generalize hWF : putRow w22 w.heap.size 0 Y.toList = WF at *
  clear hWF
  go_wp2_with fail
  refine bodyPost_ret (v := .agg Y) (by simp [results, Tryz.results18, go_sem, *]) rfl (hP.out _ Y ⟨2, ⟨#[]⟩, ⟨#[]⟩, tk4.n, tk7.n, tk10.n, nilM, nilM, ((hdT S.L).at_ : Int)⟩ (.slice none 0 0) (.slice none 0 0) (mustR c k_sem (takeR c 2 (adv (takeR c 2 (mustR c k_dots (takeR c 2 (adv S)).2)).2)).2) hY.out ?_ ?_ (HC12.out.itb TF.out) (by rw [hR.out, htk4.out, htk7.out, htk10.out]; unfold repsR stepR; rw [if_pos u]; rfl))
  · exact HC12.out.tn.trans TF.out (fun i hi => .inr (by simp at hi; omega))
  · exact HC12.out.re.turn TF.out (by simp; omega) (by simp; omega)
set_option maxHeartbeats 16000000 in
set_option maxRecDepth 20000 in
theorem qItem_repsN {z rb tb : Nat} {LL : List Tk} {c : Int} {o : Nat} (hz : z ≤ 9223372036854775807) {S : Sr} (n0 : isR k_metric S = false) (y : isR k_reps S = true) (u : isR k_step (takeR c 2 (mustR c k_dots (takeR c 2 (adv S)).2)).2 = false) (w : World) (hr : Rr z w rb tb LL c S o) :
    Calls Tryz.prog 18 #[.pointer (some ⟨rb, 0, none⟩)] w (IqP z w rb tb LL c o ((repsR c (hdT S.L).at_ (adv S)).1, mustR c k_sem (repsR c (hdT S.L).at_ (adv S)).2)) := by
  obtain ⟨R, hR⟩ : ∃ R, Hid (R = ((repsR c (hdT S.L).at_ (adv S)).1, mustR c k_sem (repsR c (hdT S.L).at_ (adv S)).2)) := ⟨_, rfl⟩
  rw [← hR.out]
  have hP : Hid (∀ w' Y i vx vy S', Y = (itC i vx vy).toArray → Turn [rb] w w' → Rr z w' rb tb LL c S' o → ItB w.heap.size z w' i vx vy → R = (i, S') → IqP z w rb tb LL c o R (.returned (.agg Y)) w') := fun w' Y i vx vy S' h0 h1 h2 h3 h4 => ⟨h1, ⟨vx, vy, by rw [h4, h0], by rw [h4]; exact h3⟩, by rw [h4]; exact h2⟩
  generalize IqP z w rb tb LL c o R = Post at *
  have hl0 := hr.lts
  have hat := hr.tl.ok.a
  have hz0 := hid2 hz
  have fl1 := fld1
  have fl2 := fld2
  obtain ⟨m, hm19⟩ : ∃ m : Nat, Hid (m = 19) := ⟨_, rfl⟩
  have zs : ∀ w, (sizeOf 53).run Tryz.prog w = .ok m w := by rw [hm19.out]; exact Tryz.sizeOf53
  have zm : (19 = m) = True := eq_true hm19.out.symm
  have R0 := hid2 (hr.next ((Below.refl _ _).alloc (Nat.le_refl _) (.cells zs19.toArray 53)))
  have R1 := hid2 hr
  obtain ⟨X, hX⟩ : ∃ X : Array Value, Hid (X = (itC (it0 0 ((hdT S.L).at_ : Int)) (.slice none 0 0) (.slice none 0 0)).toArray) := ⟨_, rfl⟩
  have stX := fun W => st_it W (X := X) (by rw [hX.out]; rfl) (by rw [hX.out]; kernel_rfl)
  unfold zeroI at stX
  have sX : X.size = 19 := by rw [hX.out]; rfl
  clear hr hz
  go_enter Tryz.func18, Tryz.ntmps18
  go_wp2_with fail
  refine Calls.mono (qAt_c _ R0.out) ?_
  rintro e w1 ⟨rfl, b1⟩
  have HC0 := hid2 (ImS.made R1.out b1 ((hdT S.L).at_ : Int))
  rw [← hX.out] at HC0
  clear b1 R0 R1
  go_wp2_with (refine wpList_it8 rfl _ rfl ((hdT S.L).at_ : Int) rfl X hX.out ?_)
  clear stX sX
  obtain ⟨g, hgg⟩ : ∃ g : Nat, Hid (g = w1.heap.size) := ⟨_, rfl⟩
  rw [← hgg.out] at HC0 ⊢
  generalize hW1 : w1.alloc _ = W1 at *
  clear hW1 hX hgg
  refine Calls.mono (qMay_c k_metric ⟨ba_neL [40] (by decide), ba_neL [123] (by decide), ba_neL [41] (by decide), ba_neL [125] (by decide)⟩ _ HC0.out.re) ?_
  rintro e w11 ⟨rfl, t2, r2⟩
  have HC1 := hid2 (HC0.out.turn t2 r2)
  clear t2 r2 HC0
  rw [n0]
  rw [may_not n0] at HC1
  go_wp2_with fail
  refine Calls.mono (qMay_c k_reps ⟨ba_neL [40] (by decide), ba_neL [123] (by decide), ba_neL [41] (by decide), ba_neL [125] (by decide)⟩ _ HC1.out.re) ?_
  rintro e w12 ⟨rfl, t2, r2⟩
  have HC2 := hid2 (HC1.out.turn t2 r2)
  clear t2 r2 HC1
  rw [y]
  rw [may_adv y] at HC2
  have c0 := HC2.out.lt.cell 0 _ rfl
  have f0 := HC2.out.lt.free 0 (by simp)
  have cl := HC2.out.lt.lt
  have HC3 := hid2 (HC2.out.set 0 (.int .i64 2) ⟨2, ⟨#[]⟩, ⟨#[]⟩, 0, 0, 0, nilM, nilM, ((hdT S.L).at_ : Int)⟩ (by decide) rfl rfl rfl HC2.out.nm HC2.out.un)
  go_wp2_with fail
  clear cl c0 f0 HC2
  refine Calls.mono (qTake_c 2 (by decide) _ HC3.out.re) ?_
  rintro e w14 ⟨rfl, t2, r2⟩
  have Hk4 := hid2 (take_tk (c := c) (k := 2) HC3.out.re.tl)
  have HC4 := hid2 (HC3.out.turn t2 r2)
  clear t2 r2 HC3
  simp only [tkW]
  obtain ⟨tk4, htk4⟩ : ∃ tk, Hid (tk = (takeR c 2 (adv S)).1) := ⟨_, rfl⟩
  rw [← htk4.out] at Hk4 ⊢
  have c3 := HC4.out.lt.cell 3 _ rfl
  have f3 := HC4.out.lt.free 3 (by simp)
  have cl := HC4.out.lt.lt
  have HC5 := hid2 (HC4.out.set 3 (.int .i64 tk4.n) ⟨2, ⟨#[]⟩, ⟨#[]⟩, tk4.n, 0, 0, nilM, nilM, ((hdT S.L).at_ : Int)⟩ (by decide) rfl rfl rfl HC4.out.nm HC4.out.un)
  go_wp2_with fail
  clear cl c3 f3 HC4
  refine Calls.mono (qMust_c k_dots ⟨ba_neL [40] (by decide), ba_neL [123] (by decide), ba_neL [41] (by decide), ba_neL [125] (by decide)⟩ _ HC5.out.re) ?_
  rintro e w16 ⟨rfl, t2, r2⟩
  have HC6 := hid2 (HC5.out.turn t2 r2)
  clear t2 r2 HC5
  go_wp2_with fail
  refine Calls.mono (qTake_c 2 (by decide) _ HC6.out.re) ?_
  rintro e w17 ⟨rfl, t2, r2⟩
  have Hk7 := hid2 (take_tk (c := c) (k := 2) HC6.out.re.tl)
  have HC7 := hid2 (HC6.out.turn t2 r2)
  clear t2 r2 HC6
  simp only [tkW]
  obtain ⟨tk7, htk7⟩ : ∃ tk, Hid (tk = (takeR c 2 (mustR c k_dots (takeR c 2 (adv S)).2)).1) := ⟨_, rfl⟩
  rw [← htk7.out] at Hk7 ⊢
  have c4 := HC7.out.lt.cell 4 _ rfl
  have f4 := HC7.out.lt.free 4 (by simp)
  have cl := HC7.out.lt.lt
  have HC8 := hid2 (HC7.out.set 4 (.int .i64 tk7.n) ⟨2, ⟨#[]⟩, ⟨#[]⟩, tk4.n, tk7.n, 0, nilM, nilM, ((hdT S.L).at_ : Int)⟩ (by decide) rfl rfl rfl HC7.out.nm HC7.out.un)
  go_wp2_with fail
  clear cl c4 f4 HC7
  refine Calls.mono (qMay_c k_step ⟨ba_neL [40] (by decide), ba_neL [123] (by decide), ba_neL [41] (by decide), ba_neL [125] (by decide)⟩ _ HC8.out.re) ?_
  rintro e w19 ⟨rfl, t2, r2⟩
  have HC9 := hid2 (HC8.out.turn t2 r2)
  clear t2 r2 HC8
  rw [u]
  rw [may_not u] at HC9
  go_wp2_with fail
  refine Calls.mono (qMust_c k_sem ⟨ba_neL [40] (by decide), ba_neL [123] (by decide), ba_neL [41] (by decide), ba_neL [125] (by decide)⟩ _ HC9.out.re) ?_
  rintro e w20 ⟨rfl, t2, r2⟩
  have HC10 := hid2 (HC9.out.turn t2 r2)
  clear t2 r2 HC9
  obtain ⟨Y, hY⟩ : ∃ Y : Array Value, Hid (Y = (itC ⟨2, ⟨#[]⟩, ⟨#[]⟩, tk4.n, tk7.n, 0, nilM, nilM, ((hdT S.L).at_ : Int)⟩ (.slice none 0 0) (.slice none 0 0)).toArray) := ⟨_, rfl⟩
  have sY : Y.size = 19 := by rw [hY.out]; rfl
  have ldY := ld_row (X := Y) HC10.out.lt (by rw [hY.out]) (n := m) hm19.out
  have one0 : Y.all (·.oneCell') = true := by rw [hY.out]; exact HC10.out.one
  have one : ∀ v ∈ Y.toList, v.oneCell' = true := fun v hv => Array.all_eq_true_iff_forall_mem.1 one0 v (by simpa using hv)
  have stY := st_at w.heap.size Y.toList 0 w20 _ HC10.out.rs (by simp [sY]) one
  have TF := hid2 (putRow_turn w.heap.size Y.toList 0 w20)
  have BF := putRow_whole HC10.out.rs (X := Y.toList) (by simp [sY])
  have ldF := ld_row (X := Y) BF rfl (n := m) (by simp [sY, hm19.out])
  have xl := HC10.out.lt.lt
  have pl := HC10.out.rs.lt
  have hgx := HC10.out.gg
  clear BF one one0
  generalize hWF : putRow w20 w.heap.size 0 Y.toList = WF at *
  clear hWF
  go_wp2_with fail
  refine bodyPost_ret (v := .agg Y) (by simp [results, Tryz.results18, go_sem, *]) rfl (hP.out _ Y ⟨2, ⟨#[]⟩, ⟨#[]⟩, tk4.n, tk7.n, 0, nilM, nilM, ((hdT S.L).at_ : Int)⟩ (.slice none 0 0) (.slice none 0 0) (mustR c k_sem (takeR c 2 (mustR c k_dots (takeR c 2 (adv S)).2)).2) hY.out ?_ ?_ (HC10.out.itb TF.out) (by rw [hR.out, htk4.out, htk7.out]; unfold repsR stepR; rw [if_neg (by rw [u]; simp)]; rfl))
  · exact HC10.out.tn.trans TF.out (fun i hi => .inr (by simp at hi; omega))
  · exact HC10.out.re.turn TF.out (by simp; omega) (by simp; omega)
end Go.Proofs.YtecdfnpbcabdnaaGreatDoor

/- The law ParseFormed. -/
import Derived.Test.YtbhmffgmbabkkaaGreatDoorPxY
import Derived.Test.YtbhmffgmbabkkaaGreatDoorMgX
import Derived.Test.YtbhmffgmbabkkaaGreatDoorMgP
namespace Go.Proofs.YtbhmffgmbabkkaaGreatDoor
open Go.RowKit Go.Lib

/-- Items in a row are items in memory. -/
theorem iat_of {B z : Nat} {w : World} {v : Value} {l : List It3} (h : IaO B z w v l) : IAt z w v (l.map Prod.fst) := by
  obtain ⟨h1, h2⟩ := h.own
  rcases h2 with ⟨rfl, h3⟩ | ⟨g, cap, cur, rfl, h3, h4, h5, h6, h7, h8⟩
  · refine ⟨none, 0, ?_, ?_, by decide, .inl ?_⟩
    · rw [List.length_map, h3]
    · rw [List.length_map, h3]; exact Nat.le_refl _
    · rw [List.length_map, h3]
  · have hg := (Array.getElem?_eq_some_iff.1 h4).1
    refine ⟨some ⟨g, 0, none⟩, cap, by rw [List.length_map], by rw [List.length_map]; exact h5, by unfold maxLen at h6; omega, .inr ⟨g, 0, rfl, hg, fun i hi => ?_⟩⟩
    have hi' : i < l.length := by simpa using hi
    have hs := h.sit _ (List.getElem_mem hi')
    refine ⟨l[i].2.1, l[i].2.2, fun q u hu => ?_, ?_⟩
    · have hq : q < 19 := by
        have := (List.getElem?_eq_some_iff.1 hu).1
        simpa using this
      rw [List.getElem_map] at hu
      have h9 : (flI l)[i * 19 + q]? = some u := (flI_get l i q hq hi').trans hu
      rw [← h8, List.getElem?_take] at h9
      split at h9
      · rw [Array.getElem?_toList] at h9
        unfold World.cell?
        simp only [h4]
        simpa using h9
      · cases h9
    · rw [List.getElem_map]
      exact ⟨SitQ.sits _ _ hs.sx, SitQ.sits _ _ hs.sy, hs.nm, hs.un⟩
theorem rpol_mem : ∀ (l : List It) (s : Nat), rPolL l s = true → ∀ i, i ∈ l → itemB i = true ∧ rcost i ≤ 16384
  | [], _, _, _, h => by cases h
  | x :: r, s, h, i, hi => by
    simp only [rPolL, Bool.and_eq_true, decide_eq_true_eq] at h
    rcases List.mem_cons.1 hi with rfl | hi
    · exact ⟨h.1.1, by omega⟩
    · exact rpol_mem r _ h.2.2 i hi
theorem void_nodes {t : Tm} (h : voidB t = true) : nodes t = 1 := by
  unfold voidB at h
  simp only [Bool.and_eq_true, decide_eq_true_eq] at h
  rw [nodes_eq, List.length_eq_zero_iff.1 h.2.2.2.2.2, nodesL_nil]
theorem costT_nodes {t : Tm} {n : Nat} (h1 : 1 ≤ n) (h : costT t ≤ n) : nodes t ≤ n := by
  unfold costT at h
  split at h
  · rename_i hv
    rw [void_nodes hv]
    exact h1
  · exact h
theorem small_of {nm : ByteArray} {l : List It} (h : rpolB nm l = true) : SmallI l := fun i hi => by
  unfold rpolB at h
  simp only [Bool.and_eq_true] at h
  obtain ⟨h1, h2⟩ := rpol_mem l 0 h.2.2 i hi
  rw [← cost_item h1] at h2
  unfold cost at h2
  exact ⟨costT_nodes (by decide) (by omega), costT_nodes (by decide) (by omega)⟩
theorem err_next {w w' : World} (h : ErrT w) (k : Below w.heap.size w w') : ErrT w' := (k.cell (p := ⟨0, 0, none⟩) (World.block_lt_of_cell? w _ h)).trans h
theorem polS_small {s : ByteArray} {p : ByteArray × List It} (h : polS s = .ok p) : s.size ≤ 1048576 := by
  unfold polS at h
  rcases hr : rdS s with _ | r
  · rw [hr] at h
    cases h
  · exact rdS_small (L := r.1) (c := r.2) hr
theorem exprS_small {s : ByteArray} {t : Tm} (h : exprS s = .ok t) : s.size ≤ 1048576 := by
  unfold exprS at h
  rcases hr : rdS s with _ | r
  · rw [hr] at h
    cases h
  · exact rdS_small (L := r.1) (c := r.2) hr
set_option maxHeartbeats 4000000 in
set_option maxRecDepth 20000 in
theorem parseFormed_c (s : ByteArray) (w : World) (hT : TabsAt w) (hE : ErrT w) : Calls Tryz.prog 6 #[.string s] w fun e w' => e = .returned (.bool true) ∧ Below w.heap.size w w' := by
  have HA := hid2 (awake13_c w hT hE)
  have HX := hid2 (fun W (k : Below w.heap.size w W) => exprF_c s W (hT.next k) (err_next hE k))
  have HP := hid2 (fun W (k : Below w.heap.size w W) => polF_c s W (hT.next k) (err_next hE k))
  have E1 := expr_said s
  have P1 := pol_said s
  unfold ExP at HX
  unfold PoP at HP
  clear hT hE
  rcases hx : exprS s with f | t
  · rw [hx] at HX E1
    obtain ⟨f1, f2⟩ := E1
    have f3 : ¬ ((f.1 : Int) < 0) := by omega
    have f4 : ¬ ((s.size : Int) < (f.1 : Int)) := by omega
    have f5 : (f.2 != 0) = true := by simpa using f2
    clear hx f1 f2
    rcases hp : polS s with g | p
    · rw [hp] at HP P1
      obtain ⟨g1, g2⟩ := P1
      have g3 : ¬ ((g.1 : Int) < 0) := by omega
      have g4 : ¬ ((s.size : Int) < (g.1 : Int)) := by omega
      have g5 : (g.2 != 0) = true := by simpa using g2
      clear hp g1 g2
      go_enter Tryz.func6, Tryz.ntmps6
      go_wp2_with fail
      refine Calls.mono HA.out ?_
      rintro e w1 ⟨rfl, b1⟩
      go_wp2_with fail
      refine Calls.mono (HX.out _ b1) ?_
      rintro e w2 ⟨b2, rfl⟩
      have B2 := below_on b1 b2 b1.size
      clear b1 b2
      go_wp2_with fail
      have B3 := B2.alloc B2.size (.cells (zs6).toArray 33)
      have X3 := Box.new w2 zs6 33
      generalize hW3 : w2.alloc _ = w3 at *
      clear hW3
      refine Calls.mono (HP.out _ B3) ?_
      rintro e w4 ⟨b4, rfl⟩
      have B4 := below_on B3 b4 B3.size
      have x0 := (X3.next b4).cell 0 _ rfl
      have xl := (X3.next b4).lt
      clear b4 X3
      go_wp2_with fail
      go_ret
      exact ⟨rfl, B4.alloc B4.size _⟩
    · rw [hp] at HP P1
      have hsz := polS_small hp
      obtain ⟨p1, p2⟩ := P1
      have hsm := small_of p1
      have HR := hid2 (fun (u : Value) (W : World) (h : PoB W.heap.size s.size W p u) => h)
      clear hp HR
      go_enter Tryz.func6, Tryz.ntmps6
      go_wp2_with fail
      refine Calls.mono HA.out ?_
      rintro e w1 ⟨rfl, b1⟩
      go_wp2_with fail
      refine Calls.mono (HX.out _ b1) ?_
      rintro e w2 ⟨b2, rfl⟩
      have B2 := below_on b1 b2 b1.size
      clear b1 b2
      go_wp2_with fail
      have B3 := B2.alloc B2.size (.cells (zs6).toArray 33)
      have X3 := Box.new w2 zs6 33
      generalize hW3 : w2.alloc _ = w3 at *
      clear hW3
      refine Calls.mono (HP.out _ B3) ?_
      rintro e w4 ⟨b4, u, rfl, hpo⟩
      have B4 := below_on B3 b4 B3.size
      have x0 := (X3.next b4).cell 0 _ rfl
      have xl := (X3.next b4).lt
      obtain ⟨l3, hl3, hia⟩ := hpo.it
      have hnm := hpo.nm
      obtain ⟨av, cv, rfl⟩ := hia.val
      have al := (Below.refl w4.heap.size w4).alloc (Nat.le_refl _) (.cells #[.string p.1, .slice av l3.length cv] 25)
      have HR := rPolicy_c hsz p.1 hnm p.2 (.slice av l3.length cv) (w4.alloc (.cells #[.string p.1, .slice av l3.length cv] 25)) (by rw [hl3]; exact (iat_of hia).next al) hsm (by omega)
      rw [p1] at HR
      have HRR := hid2 HR
      have B5 := hid2 (B4.alloc B4.size (.cells #[.string p.1, .slice av l3.length cv] 25))
      generalize l3.length = nn at *
      clear HR al hia hpo hl3 b4 X3 hsm p1 p2 hnm HX HP HA B3 B2
      simp only [poV]
      go_wp2_with fail
      refine Calls.mono HRR.out ?_
      rintro e w6 ⟨rfl, b6⟩
      have B6 := below_on B5.out b6 B5.out.size
      go_wp2_with fail
      go_ret
      exact ⟨rfl, B6⟩
  · rw [hx] at HX E1
    obtain ⟨t1, t2⟩ := E1
    have hsz := exprS_small hx
    rcases hp : polS s with g | p
    · rw [hp] at HP P1
      obtain ⟨g1, g2⟩ := P1
      have g3 : ¬ ((g.1 : Int) < 0) := by omega
      have g4 : ¬ ((s.size : Int) < (g.1 : Int)) := by omega
      have g5 : (g.2 != 0) = true := by simpa using g2
      clear hp hx g1 g2
      go_enter Tryz.func6, Tryz.ntmps6
      go_wp2_with fail
      refine Calls.mono HA.out ?_
      rintro e w1 ⟨rfl, b1⟩
      go_wp2_with fail
      refine Calls.mono (HX.out _ b1) ?_
      rintro e w2 ⟨b2, u, rfl, hs⟩
      have B2 := below_on b1 b2 b1.size
      obtain ⟨av, cv, hu, -, -⟩ := hs.parts.shape
      subst hu
      have HS := SitQ.sits _ _ hs
      generalize hnn : t.parts.length = nn at *
      clear b1 b2 hs
      simp only [tmV]
      go_wp2_with fail
      have al := (Below.refl w2.heap.size w2).alloc (Nat.le_refl _) (.cells (tmL t (.slice av nn cv)).toArray 33)
      have B3 := B2.alloc B2.size (.cells (tmL t (.slice av nn cv)).toArray 33)
      have X3 := Box.new w2 (tmL t (.slice av nn cv)) 33
      have HS3 := HS.next al
      generalize hW3 : w2.alloc _ = w3 at *
      clear hW3 al HS
      refine Calls.mono (HP.out _ B3) ?_
      rintro e w4 ⟨b4, rfl⟩
      have B4 := below_on B3 b4 B3.size
      obtain ⟨x0, x1, x2, x3, x4, x5, _⟩ := (X3.next b4).six
      have xl := (X3.next b4).lt
      have al := (Below.refl w4.heap.size w4).alloc (Nat.le_refl _) (.cells (zs2).toArray 25)
      have HF := rForm_all hsz t (.slice av nn cv) (w4.alloc (.cells (zs2).toArray 25)) ((HS3.next b4).next al)
      rw [t1] at HF
      simp only [tmV] at HF
      have HFF := hid2 HF
      have B5 := hid2 (B4.alloc B4.size (.cells (zs2).toArray 25))
      clear HF al HS3 b4 X3 HX HP HA B3 B2 hnn t1 t2
      go_wp2_with fail
      refine Calls.mono HFF.out ?_
      rintro e w6 ⟨rfl, b6⟩
      have B6 := below_on B5.out b6 B5.out.size
      go_wp2_with fail
      go_ret
      exact ⟨rfl, B6⟩
    · exact (not_both hx hp).elim
end Go.Proofs.YtbhmffgmbabkkaaGreatDoor

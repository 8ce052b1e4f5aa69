/- The law ParseLines. -/
import Derived.Test.YtbhmffgmbabkkaaGreatDoorPxY
import Derived.Test.YtbhmffgmbabkkaaGreatDoorMgX
import Derived.Test.YtbhmffgmbabkkaaGreatDoorPyX
import Derived.Test.YtbhmffgmbabkkaaGreatDoorTsB
namespace Go.Proofs.YtbhmffgmbabkkaaGreatDoor
open Go.RowKit Go.Lib

/-- Items in a row are items in memory. -/
theorem iatL_of {B z : Nat} {w : World} {v : Value} {l : List It3} (h : IaO B z w v l) : IAt z w v (l.map Prod.fst) := by
  obtain ⟨h1, h2⟩ := h.own
  rcases h2 with ⟨rfl, h3⟩ | ⟨g, cap, cur, rfl, h3, h4, h5, h6, h7, h8⟩
  · refine ⟨none, 0, ?_, ?_, by decide, .inl ?_⟩
    · rw [List.length_map, h3]
    · rw [List.length_map, h3]; exact Nat.le_refl _
    · rw [List.length_map, h3]
  · have hg := (Array.getElem?_eq_some_iff.1 h4).1
    refine ⟨some ⟨g, 0, none⟩, cap, by rw [List.length_map], by rw [List.length_map]; exact h5, by unfold maxLen at h6; omega, .inr ⟨g, 0, rfl, hg, fun i hi => ?_⟩⟩
    have hi' : i < l.length := by simpa using hi
    have hs := h.sit _ (List.getElem_mem hi')
    refine ⟨l[i].2.1, l[i].2.2, fun q u hu => ?_, ?_⟩
    · have hq : q < 19 := by
        have := (List.getElem?_eq_some_iff.1 hu).1
        simpa using this
      rw [List.getElem_map] at hu
      have h9 : (flI l)[i * 19 + q]? = some u := (flI_get l i q hq hi').trans hu
      rw [← h8, List.getElem?_take] at h9
      split at h9
      · rw [Array.getElem?_toList] at h9
        unfold World.cell?
        simp only [h4]
        simpa using h9
      · cases h9
    · rw [List.getElem_map]
      exact ⟨SitQ.sits _ _ hs.sx, SitQ.sits _ _ hs.sy, hs.nm, hs.un⟩
theorem errL_next {w w' : World} (h : ErrT w) (k : Below w.heap.size w w') : ErrT w' := (k.cell (p := ⟨0, 0, none⟩) (World.block_lt_of_cell? w _ h)).trans h
theorem sits_up {z z' : Nat} (hz : z ≤ z') {w : World} (t : Tm) : ∀ v, Sits z w t v → Sits z' w t v := by
  induction t using Tm.ind with
  | h t ih =>
    intro v h
    rw [sits_iff] at h ⊢
    obtain ⟨hf, ad, cap, hv, hl, hc, hp⟩ := h
    refine ⟨⟨hf.k, hf.n, hf.m, hf.a, Nat.le_trans hf.s hz⟩, ad, cap, hv, hl, hc, ?_⟩
    rcases hp with hp | ⟨b, off, ha, hb, hp⟩
    · exact .inl hp
    · refine .inr ⟨b, off, ha, hb, fun i hi => ?_⟩
      obtain ⟨u, h6, hu⟩ := hp i hi
      exact ⟨u, h6, ih _ (List.getElem_mem hi) u hu⟩
theorem sameS_sit {z1 z2 : Nat} {t y : Tm} {v v' : Value} (w : World) (h1 : Sits z1 w t v) (h2 : Sits z2 w y v') (ha : Al t y) : Calls Tryz.prog 22 #[tmV t v, tmV y v'] w fun e w' => e = .returned (.bool true) ∧ Below w.heap.size w w' := by
  have := rSame_all (z := max z1 z2) t y v v' w (sits_up (Nat.le_max_left _ _) _ _ h1) (sits_up (Nat.le_max_right _ _) _ _ h2)
  rw [show sameB t y = true from ha] at this
  exact this
set_option maxHeartbeats 4000000 in
set_option maxRecDepth 20000 in
theorem parseLines_c (s : ByteArray) (w : World) (hT : TabsAt w) (hE : ErrT w) : Calls Tryz.prog 7 #[.string s] w fun e w' => e = .returned (.bool true) ∧ Below w.heap.size w w' := by
  have HA := hid2 (fun W (k : Below w.heap.size w W) => awake13_c W (hT.next k) (errL_next hE k))
  have HX := hid2 (fun W (k : Below w.heap.size w W) => exprF_c s W (hT.next k) (errL_next hE k))
  have HP := hid2 (fun x W (k : Below w.heap.size w W) => polF_c x W (hT.next k) (errL_next hE k))
  clear hT hE
  by_cases hz : 2000 < s.size
  · have h1 : (2000 : Int) < (s.size : Int) := by omega
    clear HX HP
    go_enter Tryz.func7, Tryz.ntmps7
    go_wp2_with fail
    refine Calls.mono (HA.out _ (Below.refl _ _)) ?_
    rintro e w1 ⟨rfl, b1⟩
    go_wp2_with fail
    refine Calls.mono (HA.out _ b1) ?_
    rintro e w2 ⟨rfl, b2⟩
    have B2 := below_on b1 b2 b1.size
    go_wp2_with fail
    go_ret
    exact ⟨rfl, B2⟩
  · have h1 : ¬ ((2000 : Int) < (s.size : Int)) := by omega
    unfold ExP at HX
    unfold PoP at HP
    go_enter Tryz.func7, Tryz.ntmps7
    go_wp2_with fail
    refine Calls.mono (HA.out _ (Below.refl _ _)) ?_
    rintro e w1 ⟨rfl, b1⟩
    go_wp2_with fail
    refine Calls.mono (HX.out _ b1) ?_
    intro e w2 h2
    obtain ⟨b2, h2⟩ := h2
    have B2 := below_on b1 b2 b1.size
    clear b1 b2
    rcases hx : exprS s with f | t
    · rw [hx] at h2
      obtain rfl := h2
      have E1 := expr_said s
      rw [hx] at E1
      have f5 : (f.2 != 0) = true := by simpa using E1.2
      clear E1 hx HX HA
      go_wp2_with fail
      have B3 := B2.alloc B2.size (.cells (zs6).toArray 33)
      generalize hW3 : w2.alloc _ = w3 at *
      clear hW3
      refine Calls.mono (HP.out _ _ B3) ?_
      intro e w4 h4
      obtain ⟨b4, h4⟩ := h4
      have B4 := below_on B3 b4 B3.size
      clear b4 HP
      rcases hp : polS ((preM ++ s) ++ posL) with g | p
      · rw [hp] at h4
        obtain rfl := h4
        clear hp
        go_wp2_with fail
        go_ret
        exact ⟨rfl, B4.alloc B4.size _⟩
      · rw [hp] at h4
        obtain ⟨u, rfl, hpo⟩ := h4
        obtain ⟨av, cv, rfl⟩ := hpo.shape
        generalize p.2.length = nn at *
        clear hp hpo
        simp only [poV]
        go_wp2_with fail
        go_ret
        exact ⟨rfl, B4.alloc B4.size _⟩
    · rw [hx] at h2
      obtain ⟨u, rfl, hs⟩ := h2
      obtain ⟨tu, pa, pb, pc, hpol, hal⟩ := lines hx (by omega)
      obtain ⟨av, cv, hu, -, -⟩ := hs.parts.shape
      subst hu
      generalize hnn : t.parts.length = nn at *
      clear hx HX HA
      simp only [tmV]
      go_wp2_with fail
      have al := (Below.refl w2.heap.size w2).alloc (Nat.le_refl _) (.cells (tmL t (.slice av nn cv)).toArray 33)
      have B3 := B2.alloc B2.size (.cells (tmL t (.slice av nn cv)).toArray 33)
      have X3 := Box.new w2 (tmL t (.slice av nn cv)) 33
      have S3 := SitQ.turnQ (S := []) hs (Turn.of_below al) (by simp)
      generalize hW3 : w2.alloc _ = w3 at *
      clear hW3 al hs
      refine Calls.mono (HP.out _ _ B3) ?_
      intro e w4 h4
      obtain ⟨b4, h4⟩ := h4
      have B4 := below_on B3 b4 B3.size
      rw [hpol] at h4
      obtain ⟨v, rfl, hpo⟩ := h4
      obtain ⟨l3, hl3, hia⟩ := hpo.it
      have hi := iatL_of hia
      rw [← hl3] at hi
      obtain ⟨b, off, cap, rfl, hcap, hmx, hbl, hit⟩ := hi.open (by simp)
      obtain ⟨vx0, vy0, c0, i0⟩ := hit 0 (by simp)
      obtain ⟨vx1, vy1, c1, i1⟩ := hit 1 (by simp)
      have k0 : w4.cell? ⟨b, off, none⟩ = some (.int .i64 5) := c0 0 _ rfl
      have k6 : w4.cell? ⟨b, off + 6, none⟩ = some (.int .i64 tu.kind) := c0 6 _ rfl
      have k7 : w4.cell? ⟨b, off + 6 + 1, none⟩ = some (.string tu.text) := c0 7 _ rfl
      have k8 : w4.cell? ⟨b, off + 6 + 2, none⟩ = some (.int .i64 tu.n) := c0 8 _ rfl
      have k9 : w4.cell? ⟨b, off + 6 + 3, none⟩ = some (.int .i64 tu.m) := c0 9 _ rfl
      have k10 : w4.cell? ⟨b, off + 6 + 4, none⟩ = some (.int .i64 tu.pl) := c0 10 _ rfl
      have k11 : w4.cell? ⟨b, off + 6 + 5, none⟩ = some vx0 := c0 11 _ rfl
      have k31 : w4.cell? ⟨b, off + 19 + 12, none⟩ = some (.int .i64 33) := c1 12 _ rfl
      obtain ⟨x0, x1, x2, x3, x4, x5, _⟩ := (X3.next b4).six
      have xl := (X3.next b4).lt
      have S4 := SitQ.turnQ (S := []) S3 (Turn.of_below b4) (by simp)
      clear b4 X3 S3 hit c0 c1 i1 hi hia hpo hl3
      obtain ⟨ax, cx, hux, -, -⟩ := i0.sx.parts.shape
      have hux' : vx0 = .slice ax tu.parts.length cx := hux
      rw [hux'] at k11 i0
      have i0x : Sits _ w4 tu (.slice ax tu.parts.length cx) := i0.sx
      generalize tu.parts.length = nx at *
      have al := (Below.refl w4.heap.size w4).alloc (Nat.le_refl _) (.cells #[.string ⟨#[112]⟩, .slice (some ⟨b, off, none⟩) 2 cap] 25)
      have B5 := hid2 (B4.alloc B4.size (.cells #[.string ⟨#[112]⟩, .slice (some ⟨b, off, none⟩) 2 cap] 25))
      have P5 := (Box.new w4 [.string ⟨#[112]⟩, .slice (some ⟨b, off, none⟩) 2 cap] 25)
      have p1 := P5.cell 1 _ rfl
      have pl := P5.lt
      have cb : ∀ j, (w4.alloc (.cells #[.string ⟨#[112]⟩, .slice (some ⟨b, off, none⟩) 2 cap] 25)).cell? ⟨b, j, none⟩ = w4.cell? ⟨b, j, none⟩ := fun j => al.cell (p := ⟨b, j, none⟩) hbl
      have cx2 : ∀ j, (w4.alloc (.cells #[.string ⟨#[112]⟩, .slice (some ⟨b, off, none⟩) 2 cap] 25)).cell? ⟨w2.heap.size, j, none⟩ = w4.cell? ⟨w2.heap.size, j, none⟩ := fun j => al.cell (p := ⟨w2.heap.size, j, none⟩) xl
      replace k0 := (cb _).trans k0
      replace k6 := (cb _).trans k6
      replace k7 := (cb _).trans k7
      replace k8 := (cb _).trans k8
      replace k9 := (cb _).trans k9
      replace k10 := (cb _).trans k10
      replace k11 := (cb _).trans k11
      replace k31 := (cb _).trans k31
      replace x0 := (cx2 _).trans x0
      replace x1 := (cx2 _).trans x1
      replace x2 := (cx2 _).trans x2
      replace x3 := (cx2 _).trans x3
      replace x4 := (cx2 _).trans x4
      replace x5 := (cx2 _).trans x5
      have HS1 := hid2 (fun W (k : Below (w4.alloc (.cells #[.string ⟨#[112]⟩, .slice (some ⟨b, off, none⟩) 2 cap] 25)).heap.size (w4.alloc (.cells #[.string ⟨#[112]⟩, .slice (some ⟨b, off, none⟩) 2 cap] 25)) W) => sameS_sit W ((i0x.next al).next k) ((S4.sits.next al).next k) (al_symm _ _ hal))
      have hb5 : b < (w4.alloc (.cells #[.string ⟨#[112]⟩, .slice (some ⟨b, off, none⟩) 2 cap] 25)).heap.size := by simp; omega
      have hx5 : w2.heap.size < (w4.alloc (.cells #[.string ⟨#[112]⟩, .slice (some ⟨b, off, none⟩) 2 cap] 25)).heap.size := by simp; omega
      clear cb cx2 al P5 i0 i0x S4 hux hux' hpol hal HP B3 B2 B4
      simp only [poV, tmV] at HS1 ⊢
      go_wp2_with fail
      generalize hW5 : w4.alloc _ = w5 at *
      clear hW5
      go_region_held3 (fun w' => w'.cell? ⟨w2.heap.size, 0, none⟩ = some (.int .i64 t.kind) ∧ w'.cell? ⟨w2.heap.size, 1, none⟩ = some (.string t.text) ∧ w'.cell? ⟨w2.heap.size, 2, none⟩ = some (.int .i64 t.n) ∧ w'.cell? ⟨w2.heap.size, 3, none⟩ = some (.int .i64 t.m) ∧ w'.cell? ⟨w2.heap.size, 4, none⟩ = some (.int .i64 t.pl) ∧ w'.cell? ⟨w2.heap.size, 5, none⟩ = some (.slice av nn cv) ∧ w'.cell? ⟨w4.heap.size, 1, none⟩ = some (.slice (some ⟨b, off, none⟩) 2 cap) ∧ w'.cell? ⟨b, off, none⟩ = some (.int .i64 5) ∧ w'.cell? ⟨b, off + 6, none⟩ = some (.int .i64 tu.kind) ∧ w'.cell? ⟨b, off + 6 + 1, none⟩ = some (.string tu.text) ∧ w'.cell? ⟨b, off + 6 + 2, none⟩ = some (.int .i64 tu.n) ∧ w'.cell? ⟨b, off + 6 + 3, none⟩ = some (.int .i64 tu.m) ∧ w'.cell? ⟨b, off + 6 + 4, none⟩ = some (.int .i64 tu.pl) ∧ w'.cell? ⟨b, off + 6 + 5, none⟩ = some (.slice ax nx cx) ∧ w'.cell? ⟨b, off + 19 + 12, none⟩ = some (.int .i64 33)) (first | exact ⟨x0_6, x1_6, x2_6, x3_6, x4_6, x5_6, p1_6, k0_6, k6_6, k7_6, k8_6, k9_6, k10_6, k11_6, k31_6⟩ | exact ⟨x0, x1, x2, x3, x4, x5, p1, k0, k6, k7, k8, k9, k10, k11, k31⟩ | (simp only [go_sem]; exact ⟨x0, x1, x2, x3, x4, x5, p1, k0, k6, k7, k8, k9, k10, k11, k31⟩)) (first
        | (go_at_call 22; refine Calls.mono (HS1.out _ (Below.refl _ _).drew) ?_; rintro e w6 ⟨rfl, c6⟩; have b6 : Below w5.heap.size w5 w6 := below_on (Below.refl _ _).drew c6 (Nat.le_refl _); have B6 := hid2 (below_on B5.out b6 B5.out.size); have k0_6 := (b6.cell (p := ⟨b, _, none⟩) hb5).trans k0; have k6_6 := (b6.cell (p := ⟨b, _, none⟩) hb5).trans k6; have k7_6 := (b6.cell (p := ⟨b, _, none⟩) hb5).trans k7; have k8_6 := (b6.cell (p := ⟨b, _, none⟩) hb5).trans k8; have k9_6 := (b6.cell (p := ⟨b, _, none⟩) hb5).trans k9; have k10_6 := (b6.cell (p := ⟨b, _, none⟩) hb5).trans k10; have k11_6 := (b6.cell (p := ⟨b, _, none⟩) hb5).trans k11; have k31_6 := (b6.cell (p := ⟨b, _, none⟩) hb5).trans k31; have x0_6 := (b6.cell (p := ⟨w2.heap.size, _, none⟩) hx5).trans x0; have x1_6 := (b6.cell (p := ⟨w2.heap.size, _, none⟩) hx5).trans x1; have x2_6 := (b6.cell (p := ⟨w2.heap.size, _, none⟩) hx5).trans x2; have x3_6 := (b6.cell (p := ⟨w2.heap.size, _, none⟩) hx5).trans x3; have x4_6 := (b6.cell (p := ⟨w2.heap.size, _, none⟩) hx5).trans x4; have x5_6 := (b6.cell (p := ⟨w2.heap.size, _, none⟩) hx5).trans x5; have p1_6 := (b6.cell (p := ⟨w4.heap.size, 1, none⟩) pl).trans p1; clear b6 c6))
      all_goals go_wp2_with fail
      all_goals (go_ret; exact ⟨rfl, B6.out⟩)
end Go.Proofs.YtbhmffgmbabkkaaGreatDoor

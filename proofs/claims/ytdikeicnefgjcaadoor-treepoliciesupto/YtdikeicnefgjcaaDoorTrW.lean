/- Package tree: Literal; num, awake. -/
import Derived.Test.YtdikeicnefgjcaaDoorTrT
namespace Go.Proofs.YtdikeicnefgjcaaDoor
open Go.RowKit

theorem clone_c (x : ByteArray) (hx : x.size ≤ 281474976710656) (w : World) : Calls Tryd.prog 50 #[.string x] w fun e w' => e = .returned (.string x) ∧ Below w.heap.size w w' := by
  have C := fun wx => Go.Proofs.Tryd.stringslite_Clone x wx hx
  go_enter Tryd.func50, Tryd.ntmps50
  go_wp2_with fail
  refine (C _).mono ?_
  rintro e w1 ⟨rfl, b1⟩
  go_wp2_with fail
  go_ret
  exact ⟨rfl, b1⟩
theorem litR_fit {z : Nat} {w : World} {t x : Tm} {v : Value} {s : Int} (hs : Sits z w t v) (h : litR t = some (x, s)) : (s = 1 ∨ s = -1) ∧ 0 ≤ x.n ∧ x.n ≤ 9223372036854775807 ∧ x.text.size ≤ z := by
  unfold litR at h
  split at h
  · rename_i hn
    simp only [Option.some.injEq, Prod.mk.injEq] at h
    obtain ⟨rfl, rfl⟩ := h
    exact ⟨.inl rfl, leaf_num_pos hn, hs.fit.n.2, hs.fit.s⟩
  · split at h
    · rename_i y hp
      split at h
      · rename_i hc
        simp only [Option.some.injEq, Prod.mk.injEq] at h
        obtain ⟨rfl, rfl⟩ := h
        obtain ⟨b, off, cap', hv, -, -, hbl, hxx⟩ := hs.parts.open (by rw [hp]; simp)
        obtain ⟨u, h6, hu⟩ := hxx 0 (by rw [hp]; simp)
        have e0 : t.parts[0]'(by rw [hp]; simp) = y := by simp [hp]
        rw [e0] at hu
        exact ⟨.inr rfl, leaf_num_pos hc.2, hu.fit.n.2, hu.fit.s⟩
      · cases h
    · cases h
set_option maxHeartbeats 1000000 in
theorem tLiteral_c {z : Nat} (hz : z ≤ 281474976710656) (t : Tm) (v : Value) (w : World) (hs : Sits z w t v) (hT : TabsAt w) : Calls Tryd.prog 25 #[tmV t v] w fun e w' => e = .returned (litOut (litR t)) ∧ Below w.heap.size w w' := by
  have A : ∀ o, Below w.heap.size w (w.alloc o) := fun o => (Below.refl _ _).alloc (Nat.le_refl _) _
  have HN := hid2 (fun o => nodeOf_c t v (w.alloc o) (hs.next (A o)))
  have HL := hid2 (fun n wx (hb : Below w.heap.size w wx) (hn : IsNode z wx t n) => literal_c (Nat.le_trans hz (by decide)) t n wx hn hs.fit.s (hT.next hb))
  have HF := hid2 (fun x s (h : litR t = some (x, s)) => litR_fit hs h)
  have HA := hid2 A
  obtain ⟨ad, cap, rfl, hlc, hc⟩ := hs.parts.shape
  clear A hs hT
  obtain ⟨R, hR⟩ : ∃ R, Hid (R = litR t) := ⟨_, rfl⟩
  rw [← hR.out] at HL HF ⊢
  clear hR
  go_enter Tryd.func25, Tryd.ntmps25
  go_wp2_with fail
  refine Calls.mono (HN.out _) ?_
  rintro e w1 ⟨n, rfl, hn, b1⟩
  have B1 := hid2 (below_on (HA.out _) b1 (by simp))
  have HL1 := hid2 (HL.out n w1 B1.out hn)
  clear b1 HN HL hn HA
  go_wp2_with fail
  refine Calls.mono HL1.out ?_
  rintro e w2 ⟨rfl, b2⟩
  have B2 := hid2 (below_on B1.out b2 B1.out.size)
  clear b2 HL1
  cases R with
  | none =>
    simp only [litV]
    go_wp2_with fail
    refine bodyPost_ret (v := litOut none) (by simp [results, Tryd.results25, go_sem, litOut]) rfl ⟨rfl, B2.out.alloc B2.out.size _⟩
  | some p =>
    obtain ⟨x, s⟩ := p
    obtain ⟨hsg, hn0, hn1, hts⟩ := HF.out x s rfl
    have HC := hid2 (fun wx => clone_c x.text (Nat.le_trans hts hz) wx)
    simp only [litV]
    clear HF hts
    have wr1 : IntKind.i64.wrap x.n = x.n := by rw [IntKind.wrap_i64]; omega
    have wr2 : IntKind.i64.wrap (-x.n) = -x.n := by rw [IntKind.wrap_i64]; omega
    rcases hsg with rfl | rfl
    all_goals
      go_wp2_with fail
      go_region_held3 (fun w' => w'.cell? ⟨w2.heap.size, 1, none⟩ = some (.string x.text) ∧ w'.cell? ⟨w2.heap.size, 2, none⟩ = some (.int .i64 x.n)) (simp [go_sem, *]) (first | (go_at_call 50; refine Calls.mono (HC.out _) ?_; rintro e w3 ⟨rfl, b3⟩; have Y := ((Box.new w2 [.int .i64 x.kind, .string x.text, .int .i64 x.n, .int .i64 x.m] 69).next (below_drewN (Below.refl _ _) _)).next b3; have y1 := Y.cell 1 _ rfl; have y2 := Y.cell 2 _ rfl; have B3 := hid2 (below_on (below_drewN (B2.out.alloc B2.out.size _) _) b3 (by simp; have := B2.out.size; omega)); clear b3 Y))
      go_wp2_with fail
      first
      | refine bodyPost_ret (v := litOut (some (x, 1))) (by simp [results, Tryd.results25, go_sem, litOut]) rfl ⟨rfl, B3.out⟩
      | refine bodyPost_ret (v := litOut (some (x, -1))) (by simp [results, Tryd.results25, go_sem, litOut]) rfl ⟨rfl, B3.out⟩
def litT (n : Int) (s : ByteArray) : Tm := ⟨1, s, n, 0, 0, []⟩
theorem num_c (n : Int) (s : ByteArray) (w : World) : Calls Tryd.prog 28 #[.int .i64 n, .string s] w fun e w' => e = .returned (tmV (litT n s) (.slice none 0 0)) ∧ Below w.heap.size w w' := by
  go_enter Tryd.func28, Tryd.ntmps28
  go_wp2_with fail
  refine bodyPost_ret (v := tmV (litT n s) (.slice none 0 0)) (by simp [results, Tryd.results28, go_sem]; exact ⟨rfl, rfl, rfl, rfl, rfl⟩) rfl ⟨rfl, ?_⟩
  exact (Below.refl _ _).alloc (Nat.le_refl _) _
theorem sits_num {z : Nat} (n : Int) (s : ByteArray) (w : World) (hn : In64 n) (hs : s.size ≤ z) : Sits z w (litT n s) (.slice none 0 0) :=
  sits_iff.2 ⟨⟨(⟨by decide, by decide⟩ : In64 1), hn, (⟨by decide, by decide⟩ : In64 0), (⟨by decide, by decide⟩ : In64 0), hs⟩, none, 0, rfl, Nat.le_refl _, by decide, .inl rfl⟩
/-- The term that awake makes. -/
def fiveT : Tm := litT 5 ⟨#[115]⟩
def minusT : Tm := ⟨13, ⟨#[]⟩, 0, 0, 0, [fiveT]⟩
theorem five_num : numB fiveT = true := by
  have h : txt brk ⟨#[115]⟩ = true := by kernel_rfl
  unfold numB fiveT litT leafB
  simp [h]
theorem minus_lit : litR minusT = some (fiveT, -1) := by
  have h : ¬ numB minusT = true := by unfold numB minusT; simp
  have h2 : negB minusT = true := by unfold negB minusT plainB bareB; simp
  unfold litR
  rw [if_neg h]
  show (if negB minusT = true ∧ numB fiveT = true then some (fiveT, (-1 : Int)) else none) = _
  rw [if_pos ⟨h2, five_num⟩]
theorem minus_formed : formedB minusT = true := by
  rw [formedB_eq]
  have h : formedB fiveT = true := num_formed five_num
  have h2 : headB minusT.kind minusT.text minusT.n minusT.m minusT.parts.length = true := by
    unfold minusT headB plainB bareB; simp
  rw [h2]
  show (true && [fiveT].all formedB) = true
  simp [h]
theorem minus_nodes : nodes minusT = 2 := by
  rw [nodes_eq]
  show 1 + nodesL [fiveT] = 2
  rw [nodesL_cons, nodesL_nil, nodes_eq]
  show 1 + (1 + nodesL [] + 0) = 2
  rw [nodesL_nil]
/-- A slice of one term, in a block of its own. -/
theorem pat_one {z : Nat} {w : World} {g : Nat} {x : Tm} {u : Value} (hb : Box w g (tmL x u)) (hx : Sits z w x u) (c : Nat) (hc : 1 ≤ c) (hm : c ≤ 9223372036854775807) : PAt z w (.slice (some ⟨g, 0, none⟩) 1 c) [x] :=
  ⟨_, c, rfl, hc, hm, .inr ⟨g, 0, rfl, hb.lt, fun i hi => by
    have e : i = 0 := by simp at hi; omega
    subst e
    exact ⟨u, ⟨by simpa using hb.cell 0 _ rfl, by simpa using hb.cell 1 _ rfl, by simpa using hb.cell 2 _ rfl, by simpa using hb.cell 3 _ rfl, by simpa using hb.cell 4 _ rfl, by simpa using hb.cell 5 _ rfl⟩, hx⟩⟩⟩
theorem sits_minus {z : Nat} {w : World} {g : Nat} (hz : 1 ≤ z) (hb : Box w g (tmL fiveT (.slice none 0 0))) : Sits z w minusT (.slice (some ⟨g, 0, none⟩) 1 1) :=
  sits_iff.2 ⟨⟨(⟨by decide, by decide⟩ : In64 13), (⟨by decide, by decide⟩ : In64 0), (⟨by decide, by decide⟩ : In64 0), (⟨by decide, by decide⟩ : In64 0), Nat.zero_le _⟩,
    pat_one hb (sits_num 5 ⟨#[115]⟩ w ⟨by decide, by decide⟩ hz) 1 (Nat.le_refl _) (by decide)⟩
set_option maxHeartbeats 1000000 in
theorem awake_c (w : World) (hT : TabsAt w) : Calls Tryd.prog 9 #[] w fun e w' => e = .returned (.bool true) ∧ Below w.heap.size w w' := by
  have HL : Hid (∀ wx g, Below w.heap.size w wx → Box wx g (tmL fiveT (.slice none 0 0)) → Calls Tryd.prog 25 #[tmV minusT (.slice (some ⟨g, 0, none⟩) 1 1)] wx fun e w' => e = .returned (.tuple #[.int .i64 (-5), .string ⟨#[115]⟩, .bool true]) ∧ Below wx.heap.size wx w') := fun wx g hb hx => by
    have := tLiteral_c (z := 1) (by decide) minusT _ wx (sits_minus (Nat.le_refl _) hx) (hT.next hb)
    rw [minus_lit] at this
    exact this
  have HF : Hid (∀ wx g, Below w.heap.size w wx → Box wx g (tmL fiveT (.slice none 0 0)) → Calls Tryd.prog 11 #[tmV minusT (.slice (some ⟨g, 0, none⟩) 1 1)] wx fun e w' => e = .returned (.bool true) ∧ Below wx.heap.size wx w') := fun wx g hb hx => by
    have := formed_all (z := 1) (by decide) minusT _ wx (sits_minus (Nat.le_refl _) hx) (hT.next hb)
    rw [minus_formed] at this
    exact this
  have HN : Hid (∀ wx g, Below w.heap.size w wx → Box wx g (tmL fiveT (.slice none 0 0)) → Calls Tryd.prog 15 #[tmV minusT (.slice (some ⟨g, 0, none⟩) 1 1)] wx fun e w' => e = .returned (.int .i64 2) ∧ Below wx.heap.size wx w') := fun wx g _ hx => by
    have := nodes_c minusT _ wx (sits_minus (z := 1) (Nat.le_refl _) hx)
    unfold ndsV at this
    rw [minus_nodes] at this
    exact this
  have H5 := hid2 (fun wx => num_c 5 ⟨#[115]⟩ wx)
  clear hT
  go_enter Tryd.func9, Tryd.ntmps9
  go_wp2_with fail
  refine Calls.mono (H5.out _) ?_
  rintro e w1 ⟨rfl, b1⟩
  have B1 := hid2 b1
  clear b1 H5
  go_wp2_with fail
  obtain ⟨Y0, Y1, YB⟩ := two_boxes w1 24 24 (tmL fiveT (.slice none 0 0)) (tmL minusT (.slice (some ⟨w1.heap.size, 0, none⟩) 1 1))
  have B2 := hid2 (below_on B1.out YB B1.out.size)
  refine Calls.mono (HL.out _ w1.heap.size B2.out Y0) ?_
  rintro e w2 ⟨rfl, b2⟩
  have B3 := hid2 (below_on B2.out b2 B2.out.size)
  have Z2 := hid2 (Y0.next b2)
  have X2 := Y1.next b2
  have y0 := X2.cell 0 _ rfl
  have y1 := X2.cell 1 _ rfl
  have y2 := X2.cell 2 _ rfl
  have y3 := X2.cell 3 _ rfl
  have y4 := X2.cell 4 _ rfl
  have y5 := X2.cell 5 _ rfl
  have XX := hid2 X2
  clear b2 Y0 Y1 YB X2 HL
  go_wp2_with fail
  refine Calls.mono (HF.out _ w1.heap.size B3.out Z2.out) ?_
  rintro e w3 ⟨rfl, b3⟩
  have B4 := hid2 (below_on B3.out b3 B3.out.size)
  have Z3 := hid2 (Z2.out.next b3)
  have X3 := XX.out.next b3
  clear y0 y1 y2 y3 y4 y5
  have y0 := X3.cell 0 _ rfl
  have y1 := X3.cell 1 _ rfl
  have y2 := X3.cell 2 _ rfl
  have y3 := X3.cell 3 _ rfl
  have y4 := X3.cell 4 _ rfl
  have y5 := X3.cell 5 _ rfl
  clear b3 XX X3 HF Z2
  go_wp2_with fail
  refine Calls.mono (HN.out _ w1.heap.size B4.out Z3.out) ?_
  rintro e w4 ⟨rfl, b4⟩
  have B5 := hid2 (below_on B4.out b4 B4.out.size)
  clear b4
  go_wp2_with fail
  go_ret
  exact ⟨rfl, B5.out⟩
end Go.Proofs.YtdikeicnefgjcaaDoor

import Derived.Test.YtigldebdljfnbaaDoorNbK
namespace Go.Proofs.YtigldebdljfnbaaDoor
open Go.RowKit

def ActD (t : Co) : Prop := ∀ (v : Value) (mb : Nat) (K : List Int) (vk : Value) (w : World), CSP (fun b => b < mb) w t v → Mkr w mb K vk → 8 * cnodes t ≤ 800000 → K.length + 2 * cnodes t ≤ 900000 → Calls Tryd.prog 12 #[.pointer (some ⟨mb, 0, none⟩), coV t v] w fun e w' => Mwent mb (mft mb vk) w (codF t K).2 (codF t K).1 (hgtF t) e w'
abbrev rgM (l : List Co) : List (Co × Mk) := l.map fun x => (x, codF x)
theorem erung_step (b a : Co) (r : List Co) (D : List Ins) (K K2 : List Int) (G : List Ins) (hG : codF a (numK K b.n) = (G, K2)) :
    cat D (rungM (rgM (b :: a :: r)) K).1 = cat (cat (cat (cat (cat (cat (cat D [(32, 0)]) [(1, ((K.idxOf b.n : Nat) : Int))]) [(16, 0)]) [(24, (2 : Int) + (G.length : Int))]) [(33, 0)]) G) (rungM (rgM r) K2).1 ∧ (rungM (rgM (b :: a :: r)) K).2 = (rungM (rgM r) K2).2 := by
  have e : rungM (rgM (b :: a :: r)) K = (cat (cat [(32, 0)] (cat [(1, ((K.idxOf b.n : Nat) : Int))] [(16, 0)])) (cat (cat (cat [((24 : Int), (0 : Int) + ((((cat [(33, 0)] G).length + 1 + ([] : List Ins).length : Nat)) : Int))] (cat [(33, 0)] G)) []) (rungM (rgM r) K2).1), (rungM (rgM r) K2).2) := by
    show rungM ((b, codF b) :: (a, codF a) :: rgM r) K = _
    rw [rungM]
    unfold thenM overM insM numM
    simp only [hG]
  rw [e]
  refine ⟨?_, rfl⟩
  have h2 : (0 : Int) + ((((cat [(33, 0)] G).length + 1 + ([] : List Ins).length : Nat)) : Int) = 2 + (G.length : Int) := by
    rw [cat_len]
    simp only [List.length_singleton, List.length_nil]
    omega
  rw [h2, cat_nil]
  simp only [cat_cat]
theorem erung_last (a : Co) (D : List Ins) (K K2 : List Int) (G : List Ins) (hG : codF a K = (G, K2)) : cat D (rungM (rgM [a]) K).1 = cat (cat D [(33, 0)]) G ∧ (rungM (rgM [a]) K).2 = K2 := by
  have e : rungM (rgM [a]) K = (cat [(33, 0)] G, K2) := by
    show rungM ((a, codF a) :: []) K = _
    rw [rungM]
    unfold thenM insM
    simp only [hG]
    intro b a r
    cases r
  rw [e, cat_cat]
  exact ⟨rfl, rfl⟩
section
variable {mb : Nat} {F : List Nat} {W : World} {L L' : List (Nat × List Value)} {PS PS' : List (List Ins × Value)} {K : List Int} {vk : Value} {w' : World}
theorem Env.sub (h : Env mb F W L PS K vk w') (hL : ∀ p, p ∈ L' → p ∈ L) (hP : ∀ q, q ∈ PS' → q ∈ PS) : Env mb F W L' PS' K vk w' :=
  ⟨h.mw, h.fm, fun p hp => h.bx p (hL p hp), fun q hq => h.pc q (hP q hq), fun p hp q hq => h.ne p (hL p hp) q (hP q hq)⟩
end
section
variable {mb : Nat} {F : List Nat} {W : World} {L : List (Nat × List Value)} {PS : List (List Ins × Value)} {K : List Int} {vk : Value} {X : World}
theorem eone_e (h : Env mb F W L PS K vk X) (op a : Int) (hh : Nat) : Calls Tryd.prog 14 #[.int .i64 op, .int .i64 a, .int .i64 (hh : Nat)] X fun e u => ∃ v, e = .returned v ∧ ∃ v2 aa cc, v = .agg #[.slice aa 1 cc, .int .i64 (hh : Nat)] ∧ Env mb F W L (([(op, a)], .slice aa 1 cc) :: PS) K v2 u := by
  refine (eone_b op a hh X).mono ?_
  rintro e u ⟨aa, cc, rfl, b, p⟩
  exact ⟨_, rfl, vk, aa, cc, rfl, h.made b p⟩
theorem enum_e (h : Env mb F W L PS K vk X) (n : Int) (hb : K.length + 1 ≤ 1000000) (K2 : List Int) (hK : K2 = numK K n) (ix : Nat) (hx : ix = K.idxOf n) : Calls Tryd.prog 22 #[.pointer (some ⟨mb, 0, none⟩), .int .i64 n] X fun e u => ∃ v, e = .returned v ∧ ∃ v2 aa cc, v = .agg #[.slice aa 1 cc, .int .i64 ((1 : Nat) : Int)] ∧ Env mb F W L (([(1, (ix : Nat))], .slice aa 1 cc) :: PS) K2 v2 u := by
  subst hK hx
  refine (enum_c mb K vk n X h.mw.mkr hb).mono ?_
  intro e u g
  obtain ⟨v2, aa, cc, rfl, E⟩ := h.callN g 1 rfl
  exact ⟨_, rfl, v2, aa, cc, rfl, E⟩
theorem ethen_e (h : Env mb F W L PS K vk X) (A B : List Ins) (ha hb d : Nat) (va vb : Value) (h1 : (A, va) ∈ PS) (h2 : (B, vb) ∈ PS) (hl : A.length + B.length ≤ 1000000) (hh : ha + hb + d ≤ 1000000) (hj : JB B) (C : List Ins) (hC : C = cat A B) (n : Nat) (hn : n = C.length) (hm' : Nat) (hm : hm' = max ha (hb + d)) :
    Calls Tryd.prog 13 #[.agg #[va, .int .i64 (ha : Nat)], .agg #[vb, .int .i64 (hb : Nat)], .int .i64 (d : Nat)] X fun e u => ∃ v, e = .returned v ∧ ∃ v2 aa cc, v = .agg #[.slice aa n cc, .int .i64 (hm' : Nat)] ∧ Env mb F W L ((C, .slice aa n cc) :: PS) K v2 u := by
  refine (ethen_b A B ha hb d va vb X (h.read h1) (h.read h2) hl hh hj C hC n hn hm' hm).mono ?_
  rintro e u ⟨aa, cc, rfl, b, p⟩
  exact ⟨_, rfl, vk, aa, cc, rfl, h.made b p⟩
end

set_option maxHeartbeats 2000000 in
set_option maxRecDepth 20000 in
theorem act_hold (n m : Int) (hn0 : n = 0) : ActD ⟨29, n, m, []⟩ := by
  intro v mb K vk w hs h hC hK
  subst hn0
  obtain ⟨ad, cap, rfl, k1, k2⟩ := hs.parts.shape
  obtain ⟨Y0, Y1, YB⟩ := two_boxes w 30 55 [.int .i64 29, .int .i64 0, .int .i64 m, .slice ad 0 cap] [.slice none 0 0, .int .i64 0]
  have HGe : Hid (∀ i, i ∈ mft mb vk → i < w.heap.size) := chid (fun i hi => (h.ge i hi).2)
  have HBW := chid YB
  have hWs : Hid (((w.alloc (.cells #[.int .i64 29, .int .i64 0, .int .i64 m, .slice ad 0 cap] 30)).alloc (.cells #[.slice none 0 0, .int .i64 0] 55)).heap.size = w.heap.size + 2) := by show _ = _; simp
  have EE := chid (Env.start h YB Y0 Y1)
  have HH : Hid (hgtF ⟨29, 0, m, []⟩ = 0) := chid (hgt_hold rfl)
  have HE : Hid (codF ⟨29, 0, m, []⟩ K = ([(29, 0)], K)) := chid (by
    rw [codF_eq, codO_rest _ ⟨by show (29 : Int) ≠ 1; decide, by show (29 : Int) ≠ 2; decide, by show (29 : Int) ≠ 7; decide, by show (29 : Int) ≠ 13; decide, by show (29 : Int) ≠ 25; decide, by show (29 : Int) ≠ 26; decide, by show (29 : Int) ≠ 28; decide, by show (29 : Int) ≠ 27; decide, by show (29 : Int) ≠ 32; decide⟩]
    show (cat [] [(plnI 29, 0)], K) = _
    rw [nil_cat]
    rfl)
  rw [HE.out, HH.out]
  clear hs h hC hK Y0 Y1 YB k1 k2
  go_enter Tryd.func12, Tryd.ntmps12
  go_wp2_with fail
  generalize hW : ((w.alloc _).alloc _) = W at *
  clear hW
  refine Calls.mono (eone_b 29 0 0 W) ?_
  rintro e u2 ⟨a5, c5, rfl, b5, p5⟩
  have HPl := chid p5
  have E9 := EE.out.next b5
  clear b5 p5
  have Zz := (E9.bx (w.heap.size + 1, [.slice none 0 0, .int .i64 0]) (by simp)).1
  have z0 := Zz.cell 0 _ rfl
  have z1 := Zz.cell 1 _ rfl
  have zf0 := Zz.free 0 (by simp)
  have zf1 := Zz.free 1 (by simp)
  have zl := Zz.lt
  replace EE := chid E9
  clear Zz E9
  go_wp2_with fail
  refine bodyPost_ret (v := pcV (.slice a5 1 c5) 0) (by simp [results, Tryd.results12, go_sem, *]) rfl ?_
  exact Mw.res HGe.out HBW.out (Nat.le_succ _) (by rw [hWs.out]; omega) EE.out.mw HPl.out (by rw [hWs.out]; omega) _ _
set_option maxHeartbeats 4000000 in
set_option maxRecDepth 20000 in
theorem act_30 (wn cn : Int) (nl : Nat) (hnl : nl ≤ 1000000) (n m : Int) (x : Co) (hn0 : n = 0) (ihx : ValD x) (zx : csort ladF wn cn nl x = 1 ∨ csort ladF wn cn nl x = 2) : ActD ⟨30, n, m, [x]⟩ := by
  intro v mb K vk w hs h hC hK
  have hcn : cnodes ⟨30, n, m, [x]⟩ = 1 + (cnodes x) := by rw [cnodes_eq]; simp only [cnodesL_cons, cnodesL_nil]; omega
  rw [hcn] at hC hK
  subst hn0
  obtain ⟨b, off, cap, rfl, k1, k2, hbl, hbb, hx⟩ := hs.parts.open (by show 0 < 1; decide)
  have hmb := h.box.lt
  obtain ⟨Y0, Y1, YB⟩ := two_boxes w 30 55 [.int .i64 30, .int .i64 0, .int .i64 m, .slice (some ⟨b, off, none⟩) 1 cap] [.slice none 0 0, .int .i64 0]
  obtain ⟨ax0, cx0, sx0, y00, y01, y02, y03⟩ := epart_at hx hbl YB (i := 0) (x := x) rfl
  rw [show off + 0 * 4 = off by omega] at y00 y01 y02 y03
  have HP0 := chid (And.intro y00 (And.intro y01 (And.intro y02 y03)))
  have HSx0 := chid sx0
  have yl := Nat.lt_of_lt_of_le hbl YB.size
  have HB := chid (And.intro yl (And.intro hbb hmb))
  have HGe : Hid (∀ i, i ∈ mft mb vk → i < w.heap.size) := chid (fun i hi => (h.ge i hi).2)
  have HBW := chid YB
  have hWs : Hid (((w.alloc (.cells #[.int .i64 30, .int .i64 0, .int .i64 m, .slice (some ⟨b, off, none⟩) 1 cap] 30)).alloc (.cells #[.slice none 0 0, .int .i64 0] 55)).heap.size = w.heap.size + 2) := by show _ = _; simp
  have EE := chid (Env.start h YB Y0 Y1)
  obtain ⟨A, K1, hA⟩ : ∃ A9 K9, Hid (codF x K = (A9, K9)) := ⟨_, _, chid rfl⟩
  have HLA : Hid (A.length ≤ 6 * cnodes x ∧ K1.length ≤ K.length + 2 * cnodes x) := chid (by have h9 := cod_lb x K; rw [hA.out] at h9; exact h9)
  have HJA : Hid (JB A) := chid (by have h9 := cod_jb (wn := wn) (cn := cn) (t := x) (by omega) hnl (by omega) K; rw [hA.out] at h9; exact h9)
  have HHpA := chid (hgt_pos x zx)
  have HHlA := chid (hgt_le x)
  obtain ⟨ha, hha⟩ : ∃ ha, Hid (ha = hgtF x) := ⟨_, chid rfl⟩
  rw [← hha.out] at HHpA HHlA
  have HI0 := chid (fun (vk' : Value) (u : World) (hs' : CSP (fun b => b < mb) u x (.slice ax0 x.parts.length cx0)) (hk : Mkr u mb K vk') => ihx (.slice ax0 x.parts.length cx0) mb K vk' u hs' hk (by omega) (by omega))
  simp only [hA.out, ← hha.out] at HI0
  have HH : Hid (hgtF ⟨30, 0, m, [x]⟩ = ha) := chid (by rw [hha.out]; exact hgt_1 rfl (by show (30 : Int) ≠ 29; decide))
  have HE : Hid (codF ⟨30, 0, m, [x]⟩ K = (cat A [(30, 0)], K1)) := chid (by
    rw [codF_eq, codO_rest _ ⟨by show (30 : Int) ≠ 1; decide, by show (30 : Int) ≠ 2; decide, by show (30 : Int) ≠ 7; decide, by show (30 : Int) ≠ 13; decide, by show (30 : Int) ≠ 25; decide, by show (30 : Int) ≠ 26; decide, by show (30 : Int) ≠ 28; decide, by show (30 : Int) ≠ 27; decide, by show (30 : Int) ≠ 32; decide⟩]
    show thenM (thenM (codF x) (allM [])) (insM (plnI 30) 0) K = _
    unfold thenM insM allM
    simp only [hA.out, cat_nil]
    rfl)
  rw [HE.out, HH.out]
  have HN := chid (And.intro hC hK)
  clear hs h hC hK hcn hmb Y0 Y1 YB sx0 hx hbl hbb k1 k2 ihx
  go_enter Tryd.func12, Tryd.ntmps12
  go_wp2_with fail
  generalize hW : ((w.alloc _).alloc _) = W at *
  clear hW
  refine Calls.mono (HI0.out vk W HSx0.out EE.out.mw.mkr) ?_
  intro e w1 g1
  obtain ⟨vk1, a1, c1, rfl, E1⟩ := EE.out.call g1
  have HWV : Hid (W.heap.size ≤ w1.heap.size) := chid E1.mw.turn.size
  replace EE := chid E1
  have x0 := (E1.bx (w.heap.size, [.int .i64 30, .int .i64 0, .int .i64 m, .slice (some ⟨b, off, none⟩) 1 cap]) (by simp)).1.cell 0 _ rfl
  have x1 := (E1.bx (w.heap.size, [.int .i64 30, .int .i64 0, .int .i64 m, .slice (some ⟨b, off, none⟩) 1 cap]) (by simp)).1.cell 1 _ rfl
  have x2 := (E1.bx (w.heap.size, [.int .i64 30, .int .i64 0, .int .i64 m, .slice (some ⟨b, off, none⟩) 1 cap]) (by simp)).1.cell 2 _ rfl
  have x3 := (E1.bx (w.heap.size, [.int .i64 30, .int .i64 0, .int .i64 m, .slice (some ⟨b, off, none⟩) 1 cap]) (by simp)).1.cell 3 _ rfl
  have xl := (E1.bx (w.heap.size, [.int .i64 30, .int .i64 0, .int .i64 m, .slice (some ⟨b, off, none⟩) 1 cap]) (by simp)).1.lt
  clear g1 E1 y00 y01 y02 y03 yl
  go_wp2_with fail
  clear x0 x1 x2 x3 xl
  have E2 := EE.out.alloc (l := [.slice a1 A.length c1, .int .i64 (ha : Nat)]) (t := 55)
  obtain ⟨da, hda⟩ : ∃ da, da = w1.heap.size := ⟨_, rfl⟩
  rw [← hda] at E2 HWV ⊢
  generalize hV : (w1.alloc _) = V at *
  clear hV hda
  have HDda := chid HWV.out
  replace HWV := chid E2.mw.turn.size
  replace EE := chid E2
  have HLt := chid E2.lts
  clear E2
  have HSk : Hid (∀ L' PS' K' vk' u, Env mb (mft mb vk) W L' PS' K' vk' u → (∀ p, p ∈ [(da, [.slice a1 A.length c1, .int .i64 (ha : Nat)]), (w.heap.size, [.int .i64 30, .int .i64 0, .int .i64 m, .slice (some ⟨b, off, none⟩) 1 cap]), (w.heap.size + 1, [.slice none 0 0, .int .i64 0])] → p ∈ L') → (fun w' => w'.cell? ⟨da, 0, none⟩ = some (.slice a1 A.length c1) ∧ w'.cell? ⟨da, 1, none⟩ = some (.int .i64 (ha : Nat))) u ∧ da < u.heap.size) := chid (fun _ _ _ _ u hE hL => ⟨⟨(hE.bx (da, [.slice a1 A.length c1, .int .i64 (ha : Nat)]) (hL _ (by simp))).1.cell 0 _ rfl, (hE.bx (da, [.slice a1 A.length c1, .int .i64 (ha : Nat)]) (hL _ (by simp))).1.cell 1 _ rfl⟩, (hE.bx (da, [.slice a1 A.length c1, .int .i64 (ha : Nat)]) (hL _ (by simp))).1.lt⟩)
  have hS9 := HSk.out _ _ _ _ _ EE.out (fun _ h => h)
  have d0 := hS9.1.1
  have d1 := hS9.1.2
  have dl := hS9.2
  clear hS9
  obtain ⟨C9, hC9⟩ : ∃ C9, Hid (C9 = cat A [(30, 0)]) := ⟨_, chid rfl⟩
  obtain ⟨n9, hn9⟩ : ∃ n9, Hid (n9 = C9.length) := ⟨_, chid rfl⟩
  have HC9 : Hid (cat A [(30, 0)] = C9) := chid hC9.out.symm
  have HT2 := chid (fun (X : World) (v : Value) (hv : PcQ X [(30, 0)] v) (hX : PcQ X A (.slice a1 A.length c1)) => ethen_b A [(30, 0)] ha 0 1 (.slice a1 A.length c1) v X hX hv (by have := HN.out; have := HLA.out; simp only [List.length_singleton] at *; omega) (by have := HN.out; have := HHlA.out; omega) (JB.one (fun h => by cases h)) C9 hC9.out n9 hn9.out ha (by have := HHpA.out; omega))
  have nr0 : da ≠ w.heap.size + 1 := by have h7 := HDda.out; have h8 := hWs.out; omega
  have nr0' : w.heap.size + 1 ≠ da := fun e => nr0 e.symm
  have HWV4 : Hid (w.heap.size + 1 < V.heap.size) := chid (EE.out.bx (w.heap.size + 1, [.slice none 0 0, .int .i64 0]) (by simp)).1.lt
  go_wp2_with fail
  go_region_held3 (fun w' => w'.cell? ⟨da, 0, none⟩ = some (.slice a1 A.length c1) ∧ w'.cell? ⟨da, 1, none⟩ = some (.int .i64 (ha : Nat))) (simp [go_sem, *]) (first | (go_at_call 14; refine Calls.mono (eone_b 30 0 0 _) ?_; rintro e u1 ⟨a4, c4, rfl, b1, p1⟩; have Hsz1 := chid b1.size; have E9 := Env.made (EE.out.next (bdr _)) b1 p1; clear b1 p1; replace EE := chid E9; have hS9 := HSk.out _ _ _ _ _ EE.out (by (simp; done)); replace d0 := hS9.1.1; replace d1 := hS9.1.2; replace dl := hS9.2; clear hS9; clear E9) | (go_at_call 13; refine Calls.mono (HT2.out _ _ (Env.read (EE.out) (by (simp; done))) (Env.read (EE.out) (by (simp; done)))) ?_; rintro e u2 ⟨a5, c5, rfl, b2, p2⟩; have HPl := chid p2; have E9 := Env.made (EE.out) b2 p2; clear b2 p2; replace EE := chid E9; have hS9 := HSk.out _ _ _ _ _ EE.out (by (simp; done)); replace d0 := hS9.1.1; replace d1 := hS9.1.2; replace dl := hS9.2; clear hS9; clear E9; have Zz := (EE.out.bx (w.heap.size + 1, [.slice none 0 0, .int .i64 0]) (by simp)).1; have z0 := Zz.cell 0 _ rfl; have z1 := Zz.cell 1 _ rfl; have zf0 := Zz.free 0 (by simp); have zf1 := Zz.free 1 (by simp); have zl := Zz.lt; clear Zz))
  go_wp2_with fail
  refine bodyPost_ret (v := pcV (.slice a5 n9 c5) ha) (by simp [results, Tryd.results12, go_sem, *]) rfl ?_
  rw [HC9.out]
  exact Mw.res HGe.out HBW.out (Nat.le_succ _) (by rw [hWs.out]; omega) EE.out.mw HPl.out (Nat.lt_of_lt_of_le HWV4.out Hsz1.out) _ _
set_option maxHeartbeats 4000000 in
set_option maxRecDepth 20000 in
theorem act_31 (wn cn : Int) (nl : Nat) (hnl : nl ≤ 1000000) (n m : Int) (x : Co) (hn0 : n = 0) (ihx : ValD x) (zx : csort ladF wn cn nl x = 1 ∨ csort ladF wn cn nl x = 2) : ActD ⟨31, n, m, [x]⟩ := by
  intro v mb K vk w hs h hC hK
  have hcn : cnodes ⟨31, n, m, [x]⟩ = 1 + (cnodes x) := by rw [cnodes_eq]; simp only [cnodesL_cons, cnodesL_nil]; omega
  rw [hcn] at hC hK
  subst hn0
  obtain ⟨b, off, cap, rfl, k1, k2, hbl, hbb, hx⟩ := hs.parts.open (by show 0 < 1; decide)
  have hmb := h.box.lt
  obtain ⟨Y0, Y1, YB⟩ := two_boxes w 30 55 [.int .i64 31, .int .i64 0, .int .i64 m, .slice (some ⟨b, off, none⟩) 1 cap] [.slice none 0 0, .int .i64 0]
  obtain ⟨ax0, cx0, sx0, y00, y01, y02, y03⟩ := epart_at hx hbl YB (i := 0) (x := x) rfl
  rw [show off + 0 * 4 = off by omega] at y00 y01 y02 y03
  have HP0 := chid (And.intro y00 (And.intro y01 (And.intro y02 y03)))
  have HSx0 := chid sx0
  have yl := Nat.lt_of_lt_of_le hbl YB.size
  have HB := chid (And.intro yl (And.intro hbb hmb))
  have HGe : Hid (∀ i, i ∈ mft mb vk → i < w.heap.size) := chid (fun i hi => (h.ge i hi).2)
  have HBW := chid YB
  have hWs : Hid (((w.alloc (.cells #[.int .i64 31, .int .i64 0, .int .i64 m, .slice (some ⟨b, off, none⟩) 1 cap] 30)).alloc (.cells #[.slice none 0 0, .int .i64 0] 55)).heap.size = w.heap.size + 2) := by show _ = _; simp
  have EE := chid (Env.start h YB Y0 Y1)
  obtain ⟨A, K1, hA⟩ : ∃ A9 K9, Hid (codF x K = (A9, K9)) := ⟨_, _, chid rfl⟩
  have HLA : Hid (A.length ≤ 6 * cnodes x ∧ K1.length ≤ K.length + 2 * cnodes x) := chid (by have h9 := cod_lb x K; rw [hA.out] at h9; exact h9)
  have HJA : Hid (JB A) := chid (by have h9 := cod_jb (wn := wn) (cn := cn) (t := x) (by omega) hnl (by omega) K; rw [hA.out] at h9; exact h9)
  have HHpA := chid (hgt_pos x zx)
  have HHlA := chid (hgt_le x)
  obtain ⟨ha, hha⟩ : ∃ ha, Hid (ha = hgtF x) := ⟨_, chid rfl⟩
  rw [← hha.out] at HHpA HHlA
  have HI0 := chid (fun (vk' : Value) (u : World) (hs' : CSP (fun b => b < mb) u x (.slice ax0 x.parts.length cx0)) (hk : Mkr u mb K vk') => ihx (.slice ax0 x.parts.length cx0) mb K vk' u hs' hk (by omega) (by omega))
  simp only [hA.out, ← hha.out] at HI0
  have HH : Hid (hgtF ⟨31, 0, m, [x]⟩ = ha) := chid (by rw [hha.out]; exact hgt_1 rfl (by show (31 : Int) ≠ 29; decide))
  have HE : Hid (codF ⟨31, 0, m, [x]⟩ K = (cat A [(31, 0)], K1)) := chid (by
    rw [codF_eq, codO_rest _ ⟨by show (31 : Int) ≠ 1; decide, by show (31 : Int) ≠ 2; decide, by show (31 : Int) ≠ 7; decide, by show (31 : Int) ≠ 13; decide, by show (31 : Int) ≠ 25; decide, by show (31 : Int) ≠ 26; decide, by show (31 : Int) ≠ 28; decide, by show (31 : Int) ≠ 27; decide, by show (31 : Int) ≠ 32; decide⟩]
    show thenM (thenM (codF x) (allM [])) (insM (plnI 31) 0) K = _
    unfold thenM insM allM
    simp only [hA.out, cat_nil]
    rfl)
  rw [HE.out, HH.out]
  have HN := chid (And.intro hC hK)
  clear hs h hC hK hcn hmb Y0 Y1 YB sx0 hx hbl hbb k1 k2 ihx
  go_enter Tryd.func12, Tryd.ntmps12
  go_wp2_with fail
  generalize hW : ((w.alloc _).alloc _) = W at *
  clear hW
  refine Calls.mono (HI0.out vk W HSx0.out EE.out.mw.mkr) ?_
  intro e w1 g1
  obtain ⟨vk1, a1, c1, rfl, E1⟩ := EE.out.call g1
  have HWV : Hid (W.heap.size ≤ w1.heap.size) := chid E1.mw.turn.size
  replace EE := chid E1
  have x0 := (E1.bx (w.heap.size, [.int .i64 31, .int .i64 0, .int .i64 m, .slice (some ⟨b, off, none⟩) 1 cap]) (by simp)).1.cell 0 _ rfl
  have x1 := (E1.bx (w.heap.size, [.int .i64 31, .int .i64 0, .int .i64 m, .slice (some ⟨b, off, none⟩) 1 cap]) (by simp)).1.cell 1 _ rfl
  have x2 := (E1.bx (w.heap.size, [.int .i64 31, .int .i64 0, .int .i64 m, .slice (some ⟨b, off, none⟩) 1 cap]) (by simp)).1.cell 2 _ rfl
  have x3 := (E1.bx (w.heap.size, [.int .i64 31, .int .i64 0, .int .i64 m, .slice (some ⟨b, off, none⟩) 1 cap]) (by simp)).1.cell 3 _ rfl
  have xl := (E1.bx (w.heap.size, [.int .i64 31, .int .i64 0, .int .i64 m, .slice (some ⟨b, off, none⟩) 1 cap]) (by simp)).1.lt
  clear g1 E1 y00 y01 y02 y03 yl
  go_wp2_with fail
  clear x0 x1 x2 x3 xl
  have E2 := EE.out.alloc (l := [.slice a1 A.length c1, .int .i64 (ha : Nat)]) (t := 55)
  obtain ⟨da, hda⟩ : ∃ da, da = w1.heap.size := ⟨_, rfl⟩
  rw [← hda] at E2 HWV ⊢
  generalize hV : (w1.alloc _) = V at *
  clear hV hda
  have HDda := chid HWV.out
  replace HWV := chid E2.mw.turn.size
  replace EE := chid E2
  have HLt := chid E2.lts
  clear E2
  have HSk : Hid (∀ L' PS' K' vk' u, Env mb (mft mb vk) W L' PS' K' vk' u → (∀ p, p ∈ [(da, [.slice a1 A.length c1, .int .i64 (ha : Nat)]), (w.heap.size, [.int .i64 31, .int .i64 0, .int .i64 m, .slice (some ⟨b, off, none⟩) 1 cap]), (w.heap.size + 1, [.slice none 0 0, .int .i64 0])] → p ∈ L') → (fun w' => w'.cell? ⟨da, 0, none⟩ = some (.slice a1 A.length c1) ∧ w'.cell? ⟨da, 1, none⟩ = some (.int .i64 (ha : Nat))) u ∧ da < u.heap.size) := chid (fun _ _ _ _ u hE hL => ⟨⟨(hE.bx (da, [.slice a1 A.length c1, .int .i64 (ha : Nat)]) (hL _ (by simp))).1.cell 0 _ rfl, (hE.bx (da, [.slice a1 A.length c1, .int .i64 (ha : Nat)]) (hL _ (by simp))).1.cell 1 _ rfl⟩, (hE.bx (da, [.slice a1 A.length c1, .int .i64 (ha : Nat)]) (hL _ (by simp))).1.lt⟩)
  have hS9 := HSk.out _ _ _ _ _ EE.out (fun _ h => h)
  have d0 := hS9.1.1
  have d1 := hS9.1.2
  have dl := hS9.2
  clear hS9
  obtain ⟨C9, hC9⟩ : ∃ C9, Hid (C9 = cat A [(31, 0)]) := ⟨_, chid rfl⟩
  obtain ⟨n9, hn9⟩ : ∃ n9, Hid (n9 = C9.length) := ⟨_, chid rfl⟩
  have HC9 : Hid (cat A [(31, 0)] = C9) := chid hC9.out.symm
  have HT2 := chid (fun (X : World) (v : Value) (hv : PcQ X [(31, 0)] v) (hX : PcQ X A (.slice a1 A.length c1)) => ethen_b A [(31, 0)] ha 0 1 (.slice a1 A.length c1) v X hX hv (by have := HN.out; have := HLA.out; simp only [List.length_singleton] at *; omega) (by have := HN.out; have := HHlA.out; omega) (JB.one (fun h => by cases h)) C9 hC9.out n9 hn9.out ha (by have := HHpA.out; omega))
  have nr0 : da ≠ w.heap.size + 1 := by have h7 := HDda.out; have h8 := hWs.out; omega
  have nr0' : w.heap.size + 1 ≠ da := fun e => nr0 e.symm
  have HWV4 : Hid (w.heap.size + 1 < V.heap.size) := chid (EE.out.bx (w.heap.size + 1, [.slice none 0 0, .int .i64 0]) (by simp)).1.lt
  go_wp2_with fail
  go_region_held3 (fun w' => w'.cell? ⟨da, 0, none⟩ = some (.slice a1 A.length c1) ∧ w'.cell? ⟨da, 1, none⟩ = some (.int .i64 (ha : Nat))) (simp [go_sem, *]) (first | (go_at_call 14; refine Calls.mono (eone_b 31 0 0 _) ?_; rintro e u1 ⟨a4, c4, rfl, b1, p1⟩; have Hsz1 := chid b1.size; have E9 := Env.made (EE.out.next (bdr _)) b1 p1; clear b1 p1; replace EE := chid E9; have hS9 := HSk.out _ _ _ _ _ EE.out (by (simp; done)); replace d0 := hS9.1.1; replace d1 := hS9.1.2; replace dl := hS9.2; clear hS9; clear E9) | (go_at_call 13; refine Calls.mono (HT2.out _ _ (Env.read (EE.out) (by (simp; done))) (Env.read (EE.out) (by (simp; done)))) ?_; rintro e u2 ⟨a5, c5, rfl, b2, p2⟩; have HPl := chid p2; have E9 := Env.made (EE.out) b2 p2; clear b2 p2; replace EE := chid E9; have hS9 := HSk.out _ _ _ _ _ EE.out (by (simp; done)); replace d0 := hS9.1.1; replace d1 := hS9.1.2; replace dl := hS9.2; clear hS9; clear E9; have Zz := (EE.out.bx (w.heap.size + 1, [.slice none 0 0, .int .i64 0]) (by simp)).1; have z0 := Zz.cell 0 _ rfl; have z1 := Zz.cell 1 _ rfl; have zf0 := Zz.free 0 (by simp); have zf1 := Zz.free 1 (by simp); have zl := Zz.lt; clear Zz))
  go_wp2_with fail
  refine bodyPost_ret (v := pcV (.slice a5 n9 c5) ha) (by simp [results, Tryd.results12, go_sem, *]) rfl ?_
  rw [HC9.out]
  exact Mw.res HGe.out HBW.out (Nat.le_succ _) (by rw [hWs.out]; omega) EE.out.mw HPl.out (Nat.lt_of_lt_of_le HWV4.out Hsz1.out) _ _
end Go.Proofs.YtigldebdljfnbaaDoor

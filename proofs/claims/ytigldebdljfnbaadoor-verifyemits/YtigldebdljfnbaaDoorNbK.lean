import Derived.Test.YtigldebdljfnbaaDoorNbJ
namespace Go.Proofs.YtigldebdljfnbaaDoor
open Go.RowKit

set_option maxHeartbeats 4000000 in
set_option maxRecDepth 20000 in
theorem val_either (wn cn : Int) (nl : Nat) (hnl : nl ≤ 1000000) (n m : Int) (x y : Co) (ihx : ValD x) (zx : csort ladF wn cn nl x = 1 ∨ csort ladF wn cn nl x = 2) (ihy : ValD y) (zy : csort ladF wn cn nl y = 1 ∨ csort ladF wn cn nl y = 2) : ValD ⟨27, n, m, [x, y]⟩ := by
  intro v mb K vk w hs h hC hK
  have hcn : cnodes ⟨27, n, m, [x, y]⟩ = 1 + (cnodes x + cnodes y) := by rw [cnodes_eq]; simp only [cnodesL_cons, cnodesL_nil]; omega
  rw [hcn] at hC hK
  obtain ⟨b, off, cap, rfl, k1, k2, hbl, hbb, hx⟩ := hs.parts.open (by show 0 < 2; decide)
  have hmb := h.box.lt
  obtain ⟨Y0, Y1, YB⟩ := two_boxes w 30 55 [.int .i64 27, .int .i64 n, .int .i64 m, .slice (some ⟨b, off, none⟩) 2 cap] [.slice none 0 0, .int .i64 0]
  obtain ⟨ax0, cx0, sx0, y00, y01, y02, y03⟩ := epart_at hx hbl YB (i := 0) (x := x) rfl
  rw [show off + 0 * 4 = off by omega] at y00 y01 y02 y03
  have HP0 := chid (And.intro y00 (And.intro y01 (And.intro y02 y03)))
  have HSx0 := chid sx0
  obtain ⟨ax1, cx1, sx1, y10, y11, y12, y13⟩ := epart_at hx hbl YB (i := 1) (x := y) rfl
  rw [show off + 1 * 4 = off + 4 by omega] at y10 y11 y12 y13
  have HP1 := chid (And.intro y10 (And.intro y11 (And.intro y12 y13)))
  have HSx1 := chid sx1
  have yl := Nat.lt_of_lt_of_le hbl YB.size
  have HB := chid (And.intro yl (And.intro hbb hmb))
  have HGe : Hid (∀ i, i ∈ mft mb vk → i < w.heap.size) := chid (fun i hi => (h.ge i hi).2)
  have HBW := chid YB
  have hWs : Hid (((w.alloc (.cells #[.int .i64 27, .int .i64 n, .int .i64 m, .slice (some ⟨b, off, none⟩) 2 cap] 30)).alloc (.cells #[.slice none 0 0, .int .i64 0] 55)).heap.size = w.heap.size + 2) := by show _ = _; simp
  have EE := chid (Env.start h YB Y0 Y1)
  obtain ⟨A, K1, hA⟩ : ∃ A9 K9, Hid (codF x K = (A9, K9)) := ⟨_, _, chid rfl⟩
  have HLA : Hid (A.length ≤ 6 * cnodes x ∧ K1.length ≤ K.length + 2 * cnodes x) := chid (by have h9 := cod_lb x K; rw [hA.out] at h9; exact h9)
  have HJA : Hid (JB A) := chid (by have h9 := cod_jb (wn := wn) (cn := cn) (t := x) (by omega) hnl (by omega) K; rw [hA.out] at h9; exact h9)
  have HHpA := chid (hgt_pos x zx)
  have HHlA := chid (hgt_le x)
  obtain ⟨ha, hha⟩ : ∃ ha, Hid (ha = hgtF x) := ⟨_, chid rfl⟩
  rw [← hha.out] at HHpA HHlA
  have HI0 := chid (fun (vk' : Value) (u : World) (hs' : CSP (fun b => b < mb) u x (.slice ax0 x.parts.length cx0)) (hk : Mkr u mb K vk') => ihx (.slice ax0 x.parts.length cx0) mb K vk' u hs' hk (by omega) (by omega))
  simp only [hA.out, ← hha.out] at HI0
  obtain ⟨B, K2, hB⟩ : ∃ A9 K9, Hid (codF y K1 = (A9, K9)) := ⟨_, _, chid rfl⟩
  have HLB : Hid (B.length ≤ 6 * cnodes y ∧ K2.length ≤ K1.length + 2 * cnodes y) := chid (by have h9 := cod_lb y K1; rw [hB.out] at h9; exact h9)
  have HJB : Hid (JB B) := chid (by have h9 := cod_jb (wn := wn) (cn := cn) (t := y) (by omega) hnl (by omega) K1; rw [hB.out] at h9; exact h9)
  have HHpB := chid (hgt_pos y zy)
  have HHlB := chid (hgt_le y)
  obtain ⟨hb, hhb⟩ : ∃ ha, Hid (ha = hgtF y) := ⟨_, chid rfl⟩
  rw [← hhb.out] at HHpB HHlB
  have HI1 := chid (fun (vk' : Value) (u : World) (hs' : CSP (fun b => b < mb) u y (.slice ax1 y.parts.length cx1)) (hk : Mkr u mb K1 vk') => ihy (.slice ax1 y.parts.length cx1) mb K1 vk' u hs' hk (by omega) (by have h8 := HLA.out; omega))
  simp only [hB.out, ← hhb.out] at HI1
  obtain ⟨h9, hh9⟩ : ∃ h9, Hid (h9 = max ha hb) := ⟨_, chid rfl⟩
  have HH : Hid (hgtF ⟨27, n, m, [x, y]⟩ = h9) := chid (by rw [hh9.out, hha.out, hhb.out]; exact hgt_2' (by decide))
  have HE : Hid (codF ⟨27, n, m, [x, y]⟩ K = (cat (cat (cat [(25, ((A.length + 2 : Nat) : Int))] A) [(26, ((1 + B.length : Nat) : Int))]) B, K2)) := chid (by
    rw [codF_eq]
    unfold codO
    simp only [show ¬ (((27 : Int) = 1 ∨ (27 : Int) = 2)) by decide, show ¬ (27 : Int) = 7 by decide, show ¬ (27 : Int) = 13 by decide, show ¬ (27 : Int) = 25 by decide, show ¬ (27 : Int) = 26 by decide, show ¬ (27 : Int) = 28 by decide, if_false, if_true]
    show forkM 25 26 (codF x) (codF y) K = _
    unfold forkM
    simp only [hA.out, hB.out])
  rw [HE.out, HH.out]
  have HN := chid (And.intro hC hK)
  clear hs h hC hK hcn hmb Y0 Y1 YB sx0 sx1 hx hbl hbb k1 k2 ihx ihy
  go_enter Tryd.func11, Tryd.ntmps11
  go_wp2_with fail
  generalize hW : ((w.alloc _).alloc _) = W at *
  clear hW
  refine Calls.mono (HI0.out vk W HSx0.out EE.out.mw.mkr) ?_
  intro e w1 g1
  obtain ⟨vk1, a1, c1, rfl, E1⟩ := EE.out.call g1
  have HWV : Hid (W.heap.size ≤ w1.heap.size) := chid E1.mw.turn.size
  replace EE := chid E1
  have x0 := (E1.bx (w.heap.size, [.int .i64 27, .int .i64 n, .int .i64 m, .slice (some ⟨b, off, none⟩) 2 cap]) (by simp)).1.cell 0 _ rfl
  have x1 := (E1.bx (w.heap.size, [.int .i64 27, .int .i64 n, .int .i64 m, .slice (some ⟨b, off, none⟩) 2 cap]) (by simp)).1.cell 1 _ rfl
  have x2 := (E1.bx (w.heap.size, [.int .i64 27, .int .i64 n, .int .i64 m, .slice (some ⟨b, off, none⟩) 2 cap]) (by simp)).1.cell 2 _ rfl
  have x3 := (E1.bx (w.heap.size, [.int .i64 27, .int .i64 n, .int .i64 m, .slice (some ⟨b, off, none⟩) 2 cap]) (by simp)).1.cell 3 _ rfl
  have xl := (E1.bx (w.heap.size, [.int .i64 27, .int .i64 n, .int .i64 m, .slice (some ⟨b, off, none⟩) 2 cap]) (by simp)).1.lt
  clear g1 E1 y00 y01 y02 y03 y10 y11 y12 y13 yl
  go_wp2_with fail
  clear x0 x1 x2 x3 xl
  have E2 := EE.out.alloc (l := [.slice a1 A.length c1, .int .i64 (ha : Nat)]) (t := 55)
  obtain ⟨da, hda⟩ : ∃ da, da = w1.heap.size := ⟨_, rfl⟩
  rw [← hda] at E2 HWV ⊢
  generalize hV : (w1.alloc _) = V at *
  clear hV hda
  have HDda := chid HWV.out
  replace HWV := chid E2.mw.turn.size
  replace EE := chid E2
  have HLt := chid E2.lts
  clear E2
  have HSk : Hid (∀ L' PS' K' vk' u, Env mb (mft mb vk) W L' PS' K' vk' u → (∀ p, p ∈ [(da, [.slice a1 A.length c1, .int .i64 (ha : Nat)]), (w.heap.size, [.int .i64 27, .int .i64 n, .int .i64 m, .slice (some ⟨b, off, none⟩) 2 cap]), (w.heap.size + 1, [.slice none 0 0, .int .i64 0])] → p ∈ L') → (fun w' => w'.cell? ⟨da, 0, none⟩ = some (.slice a1 A.length c1) ∧ w'.cell? ⟨da, 1, none⟩ = some (.int .i64 (ha : Nat)) ∧ w'.cell? ⟨w.heap.size, 3, none⟩ = some (.slice (some ⟨b, off, none⟩) 2 cap) ∧ w'.cell? ⟨b, off + 4, none⟩ = some (.int .i64 y.op) ∧ w'.cell? ⟨b, off + 4 + 1, none⟩ = some (.int .i64 y.n) ∧ w'.cell? ⟨b, off + 4 + 2, none⟩ = some (.int .i64 y.m) ∧ w'.cell? ⟨b, off + 4 + 3, none⟩ = some (.slice ax1 y.parts.length cx1)) u ∧ da < u.heap.size ∧ w.heap.size < u.heap.size ∧ b < u.heap.size) := chid (fun _ _ _ _ u hE hL => ⟨⟨(hE.bx (da, [.slice a1 A.length c1, .int .i64 (ha : Nat)]) (hL _ (by simp))).1.cell 0 _ rfl, (hE.bx (da, [.slice a1 A.length c1, .int .i64 (ha : Nat)]) (hL _ (by simp))).1.cell 1 _ rfl, (hE.bx (w.heap.size, [.int .i64 27, .int .i64 n, .int .i64 m, .slice (some ⟨b, off, none⟩) 2 cap]) (hL _ (by simp))).1.cell 3 _ rfl, hE.cell HB.out.1 HB.out.2.1 HP1.out.1, hE.cell HB.out.1 HB.out.2.1 HP1.out.2.1, hE.cell HB.out.1 HB.out.2.1 HP1.out.2.2.1, hE.cell HB.out.1 HB.out.2.1 HP1.out.2.2.2⟩, ⟨(hE.bx (da, [.slice a1 A.length c1, .int .i64 (ha : Nat)]) (hL _ (by simp))).1.lt, (hE.bx (w.heap.size, [.int .i64 27, .int .i64 n, .int .i64 m, .slice (some ⟨b, off, none⟩) 2 cap]) (hL _ (by simp))).1.lt, Nat.lt_of_lt_of_le HB.out.1 hE.mw.turn.size⟩⟩)
  have hS9 := HSk.out _ _ _ _ _ EE.out (fun _ h => h)
  have d0 := hS9.1.1
  have d1 := hS9.1.2.1
  have x3 := hS9.1.2.2.1
  have p10 := hS9.1.2.2.2.1
  have p11 := hS9.1.2.2.2.2.1
  have p12 := hS9.1.2.2.2.2.2.1
  have p13 := hS9.1.2.2.2.2.2.2
  have dl := hS9.2.1
  have xl := hS9.2.2.1
  have pl := hS9.2.2.2
  clear hS9
  obtain ⟨C9, hC9⟩ : ∃ C9, Hid (C9 = frkL [] A B 25 26) := ⟨_, chid rfl⟩
  obtain ⟨n9, hn9⟩ : ∃ n9, Hid (n9 = C9.length) := ⟨_, chid rfl⟩
  have HC9 : Hid (cat (cat (cat [(25, ((A.length + 2 : Nat) : Int))] A) [(26, ((1 + B.length : Nat) : Int))]) B = C9) := chid (by rw [hC9.out]; unfold frkL; rw [nil_cat])
  have HT2 := chid (fun (X : World) (v : Value) (hA' : PcQ X A (.slice a1 A.length c1)) (hB' : PcQ X B v) => efork_b [] A B 0 ha hb h9 25 26 (.slice none 0 0) (.slice a1 A.length c1) v X (PcQ.nil X) hA' hB' (by have := HN.out; have := HLA.out; have := HLB.out; simp only [List.length_nil]; omega) (by have := HN.out; have := HHlA.out; have := HHlB.out; omega) HJA.out HJB.out (by have := hh9.out; omega) C9 hC9.out n9 hn9.out)
  have nr0 : da ≠ w.heap.size + 1 := by have h7 := HDda.out; have h8 := hWs.out; omega
  have nr0' : w.heap.size + 1 ≠ da := fun e => nr0 e.symm
  have nr1 : b ≠ w.heap.size + 1 := by have h7 := HB.out.2; omega
  have nr1' : w.heap.size + 1 ≠ b := fun e => nr1 e.symm
  have HWV4 : Hid (w.heap.size + 1 < V.heap.size) := chid (EE.out.bx (w.heap.size + 1, [.slice none 0 0, .int .i64 0]) (by simp)).1.lt
  go_wp2_with fail
  go_region_held3 (fun w' => w'.cell? ⟨da, 0, none⟩ = some (.slice a1 A.length c1) ∧ w'.cell? ⟨da, 1, none⟩ = some (.int .i64 (ha : Nat)) ∧ w'.cell? ⟨w.heap.size, 3, none⟩ = some (.slice (some ⟨b, off, none⟩) 2 cap) ∧ w'.cell? ⟨b, off + 4, none⟩ = some (.int .i64 y.op) ∧ w'.cell? ⟨b, off + 4 + 1, none⟩ = some (.int .i64 y.n) ∧ w'.cell? ⟨b, off + 4 + 2, none⟩ = some (.int .i64 y.m) ∧ w'.cell? ⟨b, off + 4 + 3, none⟩ = some (.slice ax1 y.parts.length cx1)) (simp [go_sem, *]) (first | (go_at_call 11; refine Calls.mono (HI1.out _ _ ((EE.out.next (bdr _)).core HSx1.out) (EE.out.next (bdr _)).mw.mkr) ?_; intro e u1 g3; obtain ⟨vk5, a4, c4, rfl, E8⟩ := (EE.out.next (bdr _)).call g3; have Hsz1 := chid (msize g3); have E9 := E8; clear E8 g3; replace EE := chid E9; have hS9 := HSk.out _ _ _ _ _ EE.out (by (simp; done)); replace d0 := hS9.1.1; replace d1 := hS9.1.2.1; replace x3 := hS9.1.2.2.1; replace p10 := hS9.1.2.2.2.1; replace p11 := hS9.1.2.2.2.2.1; replace p12 := hS9.1.2.2.2.2.2.1; replace p13 := hS9.1.2.2.2.2.2.2; replace dl := hS9.2.1; replace xl := hS9.2.2.1; replace pl := hS9.2.2.2; clear hS9; clear E9) | (go_at_call 23; refine Calls.mono (HT2.out _ _ (Env.read (EE.out) (by (simp; done))) (Env.read (EE.out) (by (simp; done)))) ?_; rintro e u2 ⟨a5, c5, rfl, b2, p2⟩; have HPl := chid p2; have E9 := Env.made (EE.out) b2 p2; clear b2 p2; replace EE := chid E9; have hS9 := HSk.out _ _ _ _ _ EE.out (by (simp; done)); replace d0 := hS9.1.1; replace d1 := hS9.1.2.1; replace x3 := hS9.1.2.2.1; replace p10 := hS9.1.2.2.2.1; replace p11 := hS9.1.2.2.2.2.1; replace p12 := hS9.1.2.2.2.2.2.1; replace p13 := hS9.1.2.2.2.2.2.2; replace dl := hS9.2.1; replace xl := hS9.2.2.1; replace pl := hS9.2.2.2; clear hS9; clear E9; have Zz := (EE.out.bx (w.heap.size + 1, [.slice none 0 0, .int .i64 0]) (by simp)).1; have z0 := Zz.cell 0 _ rfl; have z1 := Zz.cell 1 _ rfl; have zf0 := Zz.free 0 (by simp); have zf1 := Zz.free 1 (by simp); have zl := Zz.lt; clear Zz))
  go_wp2_with fail
  refine bodyPost_ret (v := pcV (.slice a5 n9 c5) h9) (by simp [results, Tryd.results11, go_sem, *]) rfl ?_
  rw [HC9.out]
  exact Mw.res HGe.out HBW.out (Nat.le_succ _) (by rw [hWs.out]; omega) EE.out.mw HPl.out (Nat.lt_of_lt_of_le HWV4.out Hsz1.out) _ _
set_option maxHeartbeats 4000000 in
set_option maxRecDepth 20000 in
theorem val_one (wn cn : Int) (nl : Nat) (hnl : nl ≤ 1000000) (k : Nat) (hk1 : 8 ≤ k) (hk2 : k ≤ 12) (n m : Int) (x : Co) (hn0 : n = 0) (ihx : ValD x) (zx : csort ladF wn cn nl x = 1 ∨ csort ladF wn cn nl x = 2) : ValD ⟨(k : Int), n, m, [x]⟩ := by
  intro v mb K vk w hs h hC hK
  have hcn : cnodes ⟨(k : Int), n, m, [x]⟩ = 1 + (cnodes x) := by rw [cnodes_eq]; simp only [cnodesL_cons, cnodesL_nil]; omega
  rw [hcn] at hC hK
  subst hn0
  obtain ⟨b, off, cap, rfl, k1, k2, hbl, hbb, hx⟩ := hs.parts.open (by show 0 < 1; decide)
  have hmb := h.box.lt
  obtain ⟨Y0, Y1, YB⟩ := two_boxes w 30 55 [.int .i64 (k : Int), .int .i64 0, .int .i64 m, .slice (some ⟨b, off, none⟩) 1 cap] [.slice none 0 0, .int .i64 0]
  obtain ⟨ax0, cx0, sx0, y00, y01, y02, y03⟩ := epart_at hx hbl YB (i := 0) (x := x) rfl
  rw [show off + 0 * 4 = off by omega] at y00 y01 y02 y03
  have HP0 := chid (And.intro y00 (And.intro y01 (And.intro y02 y03)))
  have HSx0 := chid sx0
  have yl := Nat.lt_of_lt_of_le hbl YB.size
  have HB := chid (And.intro yl (And.intro hbb hmb))
  have HGe : Hid (∀ i, i ∈ mft mb vk → i < w.heap.size) := chid (fun i hi => (h.ge i hi).2)
  have HBW := chid YB
  have hWs : Hid (((w.alloc (.cells #[.int .i64 (k : Int), .int .i64 0, .int .i64 m, .slice (some ⟨b, off, none⟩) 1 cap] 30)).alloc (.cells #[.slice none 0 0, .int .i64 0] 55)).heap.size = w.heap.size + 2) := by show _ = _; simp
  have EE := chid (Env.start h YB Y0 Y1)
  obtain ⟨A, K1, hA⟩ : ∃ A9 K9, Hid (codF x K = (A9, K9)) := ⟨_, _, chid rfl⟩
  have HLA : Hid (A.length ≤ 6 * cnodes x ∧ K1.length ≤ K.length + 2 * cnodes x) := chid (by have h9 := cod_lb x K; rw [hA.out] at h9; exact h9)
  have HJA : Hid (JB A) := chid (by have h9 := cod_jb (wn := wn) (cn := cn) (t := x) (by omega) hnl (by omega) K; rw [hA.out] at h9; exact h9)
  have HHpA := chid (hgt_pos x zx)
  have HHlA := chid (hgt_le x)
  obtain ⟨ha, hha⟩ : ∃ ha, Hid (ha = hgtF x) := ⟨_, chid rfl⟩
  rw [← hha.out] at HHpA HHlA
  have HI0 := chid (fun (vk' : Value) (u : World) (hs' : CSP (fun b => b < mb) u x (.slice ax0 x.parts.length cx0)) (hk : Mkr u mb K vk') => ihx (.slice ax0 x.parts.length cx0) mb K vk' u hs' hk (by omega) (by omega))
  simp only [hA.out, ← hha.out] at HI0
  have HH : Hid (hgtF ⟨(k : Int), 0, m, [x]⟩ = ha) := chid (by rw [hha.out]; exact hgt_1 rfl (by show (k : Int) ≠ 29; omega))
  obtain ⟨op, hop⟩ : ∃ op, Hid (op = 6 + (k : Int) - 8) := ⟨_, chid rfl⟩
  have HE : Hid (codF ⟨(k : Int), 0, m, [x]⟩ K = (cat A [(op, 0)], K1)) := chid (by
    rw [codF_eq, codO_rest _ ⟨by show (k : Int) ≠ 1; omega, by show (k : Int) ≠ 2; omega, by show (k : Int) ≠ 7; omega, by show (k : Int) ≠ 13; omega, by show (k : Int) ≠ 25; omega, by show (k : Int) ≠ 26; omega, by show (k : Int) ≠ 28; omega, by show (k : Int) ≠ 27; omega, by show (k : Int) ≠ 32; omega⟩]
    show thenM (thenM (codF x) (allM [])) (insM (plnI (k : Int)) 0) K = _
    have hp : plnI (k : Int) = op := by rw [hop.out]; unfold plnI; rw [if_neg (by omega), if_pos (by omega)]; omega
    rw [hp]
    unfold thenM insM allM
    simp only [hA.out, cat_nil])
  rw [HE.out, HH.out]
  have HN := chid (And.intro hC hK)
  have hk0 : 8 ≤ (k : Int) := by omega
  have hk9 : (k : Int) ≤ 12 := by omega
  have t1 : ((k : Int) == 1) = false := by rw [beq_eq_false_iff_ne]; omega
  have t2 : ((k : Int) == 2) = false := by rw [beq_eq_false_iff_ne]; omega
  have t3 : ((k : Int) == 3) = false := by rw [beq_eq_false_iff_ne]; omega
  have t4 : ((k : Int) == 4) = false := by rw [beq_eq_false_iff_ne]; omega
  have t5 : ((k : Int) == 5) = false := by rw [beq_eq_false_iff_ne]; omega
  have t6 : ((k : Int) == 6) = false := by rw [beq_eq_false_iff_ne]; omega
  have t27 : ((k : Int) == 27) = false := by rw [beq_eq_false_iff_ne]; omega
  have t7 : ((k : Int) == 7) = false := by rw [beq_eq_false_iff_ne]; omega
  have t13 : ((k : Int) == 13) = false := by rw [beq_eq_false_iff_ne]; omega
  have t25 : ((k : Int) == 25) = false := by rw [beq_eq_false_iff_ne]; omega
  have t26 : ((k : Int) == 26) = false := by rw [beq_eq_false_iff_ne]; omega
  have t28 : ((k : Int) == 28) = false := by rw [beq_eq_false_iff_ne]; omega
  clear hs h hC hK hcn hmb Y0 Y1 YB sx0 hx hbl hbb k1 k2 ihx
  go_enter Tryd.func11, Tryd.ntmps11
  go_wp2_with fail
  generalize hW : ((w.alloc _).alloc _) = W at *
  clear hW
  refine Calls.mono (HI0.out vk W HSx0.out EE.out.mw.mkr) ?_
  intro e w1 g1
  obtain ⟨vk1, a1, c1, rfl, E1⟩ := EE.out.call g1
  have HWV : Hid (W.heap.size ≤ w1.heap.size) := chid E1.mw.turn.size
  replace EE := chid E1
  have x0 := (E1.bx (w.heap.size, [.int .i64 (k : Int), .int .i64 0, .int .i64 m, .slice (some ⟨b, off, none⟩) 1 cap]) (by simp)).1.cell 0 _ rfl
  have x1 := (E1.bx (w.heap.size, [.int .i64 (k : Int), .int .i64 0, .int .i64 m, .slice (some ⟨b, off, none⟩) 1 cap]) (by simp)).1.cell 1 _ rfl
  have x2 := (E1.bx (w.heap.size, [.int .i64 (k : Int), .int .i64 0, .int .i64 m, .slice (some ⟨b, off, none⟩) 1 cap]) (by simp)).1.cell 2 _ rfl
  have x3 := (E1.bx (w.heap.size, [.int .i64 (k : Int), .int .i64 0, .int .i64 m, .slice (some ⟨b, off, none⟩) 1 cap]) (by simp)).1.cell 3 _ rfl
  have xl := (E1.bx (w.heap.size, [.int .i64 (k : Int), .int .i64 0, .int .i64 m, .slice (some ⟨b, off, none⟩) 1 cap]) (by simp)).1.lt
  clear g1 E1 y00 y01 y02 y03 yl
  go_wp2_with fail
  clear x0 x1 x2 x3 xl
  have E2 := EE.out.alloc (l := [.slice a1 A.length c1, .int .i64 (ha : Nat)]) (t := 55)
  obtain ⟨da, hda⟩ : ∃ da, da = w1.heap.size := ⟨_, rfl⟩
  rw [← hda] at E2 HWV ⊢
  generalize hV : (w1.alloc _) = V at *
  clear hV hda
  have HDda := chid HWV.out
  replace HWV := chid E2.mw.turn.size
  replace EE := chid E2
  have HLt := chid E2.lts
  clear E2
  have HSk : Hid (∀ L' PS' K' vk' u, Env mb (mft mb vk) W L' PS' K' vk' u → (∀ p, p ∈ [(da, [.slice a1 A.length c1, .int .i64 (ha : Nat)]), (w.heap.size, [.int .i64 (k : Int), .int .i64 0, .int .i64 m, .slice (some ⟨b, off, none⟩) 1 cap]), (w.heap.size + 1, [.slice none 0 0, .int .i64 0])] → p ∈ L') → (fun w' => w'.cell? ⟨da, 0, none⟩ = some (.slice a1 A.length c1) ∧ w'.cell? ⟨da, 1, none⟩ = some (.int .i64 (ha : Nat)) ∧ w'.cell? ⟨w.heap.size, 0, none⟩ = some (.int .i64 (k : Int))) u ∧ da < u.heap.size ∧ w.heap.size < u.heap.size) := chid (fun _ _ _ _ u hE hL => ⟨⟨(hE.bx (da, [.slice a1 A.length c1, .int .i64 (ha : Nat)]) (hL _ (by simp))).1.cell 0 _ rfl, (hE.bx (da, [.slice a1 A.length c1, .int .i64 (ha : Nat)]) (hL _ (by simp))).1.cell 1 _ rfl, (hE.bx (w.heap.size, [.int .i64 (k : Int), .int .i64 0, .int .i64 m, .slice (some ⟨b, off, none⟩) 1 cap]) (hL _ (by simp))).1.cell 0 _ rfl⟩, ⟨(hE.bx (da, [.slice a1 A.length c1, .int .i64 (ha : Nat)]) (hL _ (by simp))).1.lt, (hE.bx (w.heap.size, [.int .i64 (k : Int), .int .i64 0, .int .i64 m, .slice (some ⟨b, off, none⟩) 1 cap]) (hL _ (by simp))).1.lt⟩⟩)
  have hS9 := HSk.out _ _ _ _ _ EE.out (fun _ h => h)
  have d0 := hS9.1.1
  have d1 := hS9.1.2.1
  have x0 := hS9.1.2.2
  have dl := hS9.2.1
  have xl := hS9.2.2
  clear hS9
  obtain ⟨C9, hC9⟩ : ∃ C9, Hid (C9 = cat A [(op, 0)]) := ⟨_, chid rfl⟩
  obtain ⟨n9, hn9⟩ : ∃ n9, Hid (n9 = C9.length) := ⟨_, chid rfl⟩
  have HC9 : Hid (cat A [(op, 0)] = C9) := chid hC9.out.symm
  have hw1 : IntKind.i64.wrap (6 + (k : Int)) = 6 + (k : Int) := by rw [IntKind.wrap_i64]; omega
  have hw2 : IntKind.i64.wrap (6 + (k : Int) - 8) = 6 + (k : Int) - 8 := by rw [IntKind.wrap_i64]; omega
  have HJo : Hid (JB [(op, 0)]) := chid (JB.one (fun _ => by omega))
  have HT2 := chid (fun (X : World) (v : Value) (hv : PcQ X [(op, 0)] v) (hX : PcQ X A (.slice a1 A.length c1)) => ethen_b A [(op, 0)] ha 0 1 (.slice a1 A.length c1) v X hX hv (by have := HN.out; have := HLA.out; simp only [List.length_singleton] at *; omega) (by have := HN.out; have := HHlA.out; omega) HJo.out C9 hC9.out n9 hn9.out ha (by have := HHpA.out; omega))
  have nr0 : da ≠ w.heap.size + 1 := by have h7 := HDda.out; have h8 := hWs.out; omega
  have nr0' : w.heap.size + 1 ≠ da := fun e => nr0 e.symm
  have HWV4 : Hid (w.heap.size + 1 < V.heap.size) := chid (EE.out.bx (w.heap.size + 1, [.slice none 0 0, .int .i64 0]) (by simp)).1.lt
  go_wp2_with fail
  go_region_held3 (fun w' => w'.cell? ⟨da, 0, none⟩ = some (.slice a1 A.length c1) ∧ w'.cell? ⟨da, 1, none⟩ = some (.int .i64 (ha : Nat)) ∧ w'.cell? ⟨w.heap.size, 0, none⟩ = some (.int .i64 (k : Int))) (simp [go_sem, *]) (first | (go_at_call 14; rw [← hop.out]; refine Calls.mono (eone_b op 0 0 _) ?_; rintro e u1 ⟨a4, c4, rfl, b1, p1⟩; have Hsz1 := chid b1.size; have E9 := Env.made (EE.out.next (bdr _)) b1 p1; clear b1 p1; replace EE := chid E9; have hS9 := HSk.out _ _ _ _ _ EE.out (by (simp; done)); replace d0 := hS9.1.1; replace d1 := hS9.1.2.1; replace x0 := hS9.1.2.2; replace dl := hS9.2.1; replace xl := hS9.2.2; clear hS9; clear E9) | (go_at_call 13; refine Calls.mono (HT2.out _ _ (Env.read (EE.out) (by (simp; done))) (Env.read (EE.out) (by (simp; done)))) ?_; rintro e u2 ⟨a5, c5, rfl, b2, p2⟩; have HPl := chid p2; have E9 := Env.made (EE.out) b2 p2; clear b2 p2; replace EE := chid E9; have hS9 := HSk.out _ _ _ _ _ EE.out (by (simp; done)); replace d0 := hS9.1.1; replace d1 := hS9.1.2.1; replace x0 := hS9.1.2.2; replace dl := hS9.2.1; replace xl := hS9.2.2; clear hS9; clear E9; have Zz := (EE.out.bx (w.heap.size + 1, [.slice none 0 0, .int .i64 0]) (by simp)).1; have z0 := Zz.cell 0 _ rfl; have z1 := Zz.cell 1 _ rfl; have zf0 := Zz.free 0 (by simp); have zf1 := Zz.free 1 (by simp); have zl := Zz.lt; clear Zz))
  go_wp2_with fail
  refine bodyPost_ret (v := pcV (.slice a5 n9 c5) ha) (by simp [results, Tryd.results11, go_sem, *]) rfl ?_
  rw [HC9.out]
  exact Mw.res HGe.out HBW.out (Nat.le_succ _) (by rw [hWs.out]; omega) EE.out.mw HPl.out (Nat.lt_of_lt_of_le HWV4.out Hsz1.out) _ _

set_option maxHeartbeats 4000000 in
set_option maxRecDepth 20000 in
theorem val_two (wn cn : Int) (nl : Nat) (hnl : nl ≤ 1000000) (k : Nat) (hk1 : 14 ≤ k) (hk2 : k ≤ 24) (n m : Int) (x y : Co) (hn0 : n = 0) (ihx : ValD x) (zx : csort ladF wn cn nl x = 1 ∨ csort ladF wn cn nl x = 2) (ihy : ValD y) (zy : csort ladF wn cn nl y = 1 ∨ csort ladF wn cn nl y = 2) : ValD ⟨(k : Int), n, m, [x, y]⟩ := by
  intro v mb K vk w hs h hC hK
  have hcn : cnodes ⟨(k : Int), n, m, [x, y]⟩ = 1 + (cnodes x + cnodes y) := by rw [cnodes_eq]; simp only [cnodesL_cons, cnodesL_nil]; omega
  rw [hcn] at hC hK
  subst hn0
  obtain ⟨b, off, cap, rfl, k1, k2, hbl, hbb, hx⟩ := hs.parts.open (by show 0 < 2; decide)
  have hmb := h.box.lt
  obtain ⟨Y0, Y1, YB⟩ := two_boxes w 30 55 [.int .i64 (k : Int), .int .i64 0, .int .i64 m, .slice (some ⟨b, off, none⟩) 2 cap] [.slice none 0 0, .int .i64 0]
  obtain ⟨ax0, cx0, sx0, y00, y01, y02, y03⟩ := epart_at hx hbl YB (i := 0) (x := x) rfl
  rw [show off + 0 * 4 = off by omega] at y00 y01 y02 y03
  have HP0 := chid (And.intro y00 (And.intro y01 (And.intro y02 y03)))
  have HSx0 := chid sx0
  obtain ⟨ax1, cx1, sx1, y10, y11, y12, y13⟩ := epart_at hx hbl YB (i := 1) (x := y) rfl
  rw [show off + 1 * 4 = off + 4 by omega] at y10 y11 y12 y13
  have HP1 := chid (And.intro y10 (And.intro y11 (And.intro y12 y13)))
  have HSx1 := chid sx1
  have yl := Nat.lt_of_lt_of_le hbl YB.size
  have HB := chid (And.intro yl (And.intro hbb hmb))
  have HGe : Hid (∀ i, i ∈ mft mb vk → i < w.heap.size) := chid (fun i hi => (h.ge i hi).2)
  have HBW := chid YB
  have hWs : Hid (((w.alloc (.cells #[.int .i64 (k : Int), .int .i64 0, .int .i64 m, .slice (some ⟨b, off, none⟩) 2 cap] 30)).alloc (.cells #[.slice none 0 0, .int .i64 0] 55)).heap.size = w.heap.size + 2) := by show _ = _; simp
  have EE := chid (Env.start h YB Y0 Y1)
  obtain ⟨A, K1, hA⟩ : ∃ A9 K9, Hid (codF x K = (A9, K9)) := ⟨_, _, chid rfl⟩
  have HLA : Hid (A.length ≤ 6 * cnodes x ∧ K1.length ≤ K.length + 2 * cnodes x) := chid (by have h9 := cod_lb x K; rw [hA.out] at h9; exact h9)
  have HJA : Hid (JB A) := chid (by have h9 := cod_jb (wn := wn) (cn := cn) (t := x) (by omega) hnl (by omega) K; rw [hA.out] at h9; exact h9)
  have HHpA := chid (hgt_pos x zx)
  have HHlA := chid (hgt_le x)
  obtain ⟨ha, hha⟩ : ∃ ha, Hid (ha = hgtF x) := ⟨_, chid rfl⟩
  rw [← hha.out] at HHpA HHlA
  have HI0 := chid (fun (vk' : Value) (u : World) (hs' : CSP (fun b => b < mb) u x (.slice ax0 x.parts.length cx0)) (hk : Mkr u mb K vk') => ihx (.slice ax0 x.parts.length cx0) mb K vk' u hs' hk (by omega) (by omega))
  simp only [hA.out, ← hha.out] at HI0
  obtain ⟨B, K2, hB⟩ : ∃ A9 K9, Hid (codF y K1 = (A9, K9)) := ⟨_, _, chid rfl⟩
  have HLB : Hid (B.length ≤ 6 * cnodes y ∧ K2.length ≤ K1.length + 2 * cnodes y) := chid (by have h9 := cod_lb y K1; rw [hB.out] at h9; exact h9)
  have HJB : Hid (JB B) := chid (by have h9 := cod_jb (wn := wn) (cn := cn) (t := y) (by omega) hnl (by omega) K1; rw [hB.out] at h9; exact h9)
  have HHpB := chid (hgt_pos y zy)
  have HHlB := chid (hgt_le y)
  obtain ⟨hb, hhb⟩ : ∃ ha, Hid (ha = hgtF y) := ⟨_, chid rfl⟩
  rw [← hhb.out] at HHpB HHlB
  have HI1 := chid (fun (vk' : Value) (u : World) (hs' : CSP (fun b => b < mb) u y (.slice ax1 y.parts.length cx1)) (hk : Mkr u mb K1 vk') => ihy (.slice ax1 y.parts.length cx1) mb K1 vk' u hs' hk (by omega) (by have h8 := HLA.out; omega))
  simp only [hB.out, ← hhb.out] at HI1
  obtain ⟨h1, hh1⟩ : ∃ h1, Hid (h1 = max ha (hb + 1)) := ⟨_, chid rfl⟩
  have HH : Hid (hgtF ⟨(k : Int), 0, m, [x, y]⟩ = h1) := chid (by
    rw [hh1.out, hha.out, hhb.out, hgt_2 (t := ⟨(k : Int), 0, m, [x, y]⟩) (x := x) (y := y) rfl (by show (k : Int) ≠ 29; omega) (by show (k : Int) ≠ 32; omega), if_pos (show 14 ≤ (⟨(k : Int), 0, m, [x, y]⟩ : Co).op ∧ (⟨(k : Int), 0, m, [x, y]⟩ : Co).op ≤ 24 from ⟨by show 14 ≤ (k : Int); omega, by show (k : Int) ≤ 24; omega⟩)]
    omega)
  obtain ⟨op, hop⟩ : ∃ op, Hid (op = 12 + (k : Int) - 14) := ⟨_, chid rfl⟩
  have HE : Hid (codF ⟨(k : Int), 0, m, [x, y]⟩ K = (cat (cat A B) [(op, 0)], K2)) := chid (by
    rw [codF_eq, codO_rest _ ⟨by show (k : Int) ≠ 1; omega, by show (k : Int) ≠ 2; omega, by show (k : Int) ≠ 7; omega, by show (k : Int) ≠ 13; omega, by show (k : Int) ≠ 25; omega, by show (k : Int) ≠ 26; omega, by show (k : Int) ≠ 28; omega, by show (k : Int) ≠ 27; omega, by show (k : Int) ≠ 32; omega⟩]
    show thenM (thenM (codF x) (thenM (codF y) (allM []))) (insM (plnI (k : Int)) 0) K = _
    have hp : plnI (k : Int) = op := by rw [hop.out]; unfold plnI; rw [if_neg (by omega), if_neg (by omega), if_pos (by omega)]; omega
    rw [hp]
    unfold thenM insM allM
    simp only [hA.out, hB.out, cat_nil])
  rw [HE.out, HH.out]
  have HN := chid (And.intro hC hK)
  have hk0 : 14 ≤ (k : Int) := by omega
  have hk9 : (k : Int) ≤ 24 := by omega
  have t1 : ((k : Int) == 1) = false := by rw [beq_eq_false_iff_ne]; omega
  have t2 : ((k : Int) == 2) = false := by rw [beq_eq_false_iff_ne]; omega
  have t3 : ((k : Int) == 3) = false := by rw [beq_eq_false_iff_ne]; omega
  have t4 : ((k : Int) == 4) = false := by rw [beq_eq_false_iff_ne]; omega
  have t5 : ((k : Int) == 5) = false := by rw [beq_eq_false_iff_ne]; omega
  have t6 : ((k : Int) == 6) = false := by rw [beq_eq_false_iff_ne]; omega
  have t27 : ((k : Int) == 27) = false := by rw [beq_eq_false_iff_ne]; omega
  have t7 : ((k : Int) == 7) = false := by rw [beq_eq_false_iff_ne]; omega
  have t13 : ((k : Int) == 13) = false := by rw [beq_eq_false_iff_ne]; omega
  have t25 : ((k : Int) == 25) = false := by rw [beq_eq_false_iff_ne]; omega
  have t26 : ((k : Int) == 26) = false := by rw [beq_eq_false_iff_ne]; omega
  have t28 : ((k : Int) == 28) = false := by rw [beq_eq_false_iff_ne]; omega
  clear hs h hC hK hcn hmb Y0 Y1 YB sx0 sx1 hx hbl hbb k1 k2 ihx ihy
  go_enter Tryd.func11, Tryd.ntmps11
  go_wp2_with fail
  generalize hW : ((w.alloc _).alloc _) = W at *
  clear hW
  refine Calls.mono (HI0.out vk W HSx0.out EE.out.mw.mkr) ?_
  intro e w1 g1
  obtain ⟨vk1, a1, c1, rfl, E1⟩ := EE.out.call g1
  have HWV : Hid (W.heap.size ≤ w1.heap.size) := chid E1.mw.turn.size
  replace EE := chid E1
  have x0 := (E1.bx (w.heap.size, [.int .i64 (k : Int), .int .i64 0, .int .i64 m, .slice (some ⟨b, off, none⟩) 2 cap]) (by simp)).1.cell 0 _ rfl
  have x1 := (E1.bx (w.heap.size, [.int .i64 (k : Int), .int .i64 0, .int .i64 m, .slice (some ⟨b, off, none⟩) 2 cap]) (by simp)).1.cell 1 _ rfl
  have x2 := (E1.bx (w.heap.size, [.int .i64 (k : Int), .int .i64 0, .int .i64 m, .slice (some ⟨b, off, none⟩) 2 cap]) (by simp)).1.cell 2 _ rfl
  have x3 := (E1.bx (w.heap.size, [.int .i64 (k : Int), .int .i64 0, .int .i64 m, .slice (some ⟨b, off, none⟩) 2 cap]) (by simp)).1.cell 3 _ rfl
  have xl := (E1.bx (w.heap.size, [.int .i64 (k : Int), .int .i64 0, .int .i64 m, .slice (some ⟨b, off, none⟩) 2 cap]) (by simp)).1.lt
  clear g1 E1 y00 y01 y02 y03 y10 y11 y12 y13 yl
  go_wp2_with fail
  clear x0 x1 x2 x3 xl
  have E2 := EE.out.alloc (l := [.slice a1 A.length c1, .int .i64 (ha : Nat)]) (t := 55)
  obtain ⟨da, hda⟩ : ∃ da, da = w1.heap.size := ⟨_, rfl⟩
  rw [← hda] at E2 HWV ⊢
  generalize hV : (w1.alloc _) = V at *
  clear hV hda
  have HDda := chid HWV.out
  replace HWV := chid E2.mw.turn.size
  replace EE := chid E2
  have HLt := chid E2.lts
  clear E2
  have HSk : Hid (∀ L' PS' K' vk' u, Env mb (mft mb vk) W L' PS' K' vk' u → (∀ p, p ∈ [(da, [.slice a1 A.length c1, .int .i64 (ha : Nat)]), (w.heap.size, [.int .i64 (k : Int), .int .i64 0, .int .i64 m, .slice (some ⟨b, off, none⟩) 2 cap]), (w.heap.size + 1, [.slice none 0 0, .int .i64 0])] → p ∈ L') → (fun w' => w'.cell? ⟨da, 0, none⟩ = some (.slice a1 A.length c1) ∧ w'.cell? ⟨da, 1, none⟩ = some (.int .i64 (ha : Nat)) ∧ w'.cell? ⟨w.heap.size, 3, none⟩ = some (.slice (some ⟨b, off, none⟩) 2 cap) ∧ w'.cell? ⟨b, off + 4, none⟩ = some (.int .i64 y.op) ∧ w'.cell? ⟨b, off + 4 + 1, none⟩ = some (.int .i64 y.n) ∧ w'.cell? ⟨b, off + 4 + 2, none⟩ = some (.int .i64 y.m) ∧ w'.cell? ⟨b, off + 4 + 3, none⟩ = some (.slice ax1 y.parts.length cx1)) u ∧ da < u.heap.size ∧ w.heap.size < u.heap.size ∧ b < u.heap.size) := chid (fun _ _ _ _ u hE hL => ⟨⟨(hE.bx (da, [.slice a1 A.length c1, .int .i64 (ha : Nat)]) (hL _ (by simp))).1.cell 0 _ rfl, (hE.bx (da, [.slice a1 A.length c1, .int .i64 (ha : Nat)]) (hL _ (by simp))).1.cell 1 _ rfl, (hE.bx (w.heap.size, [.int .i64 (k : Int), .int .i64 0, .int .i64 m, .slice (some ⟨b, off, none⟩) 2 cap]) (hL _ (by simp))).1.cell 3 _ rfl, hE.cell HB.out.1 HB.out.2.1 HP1.out.1, hE.cell HB.out.1 HB.out.2.1 HP1.out.2.1, hE.cell HB.out.1 HB.out.2.1 HP1.out.2.2.1, hE.cell HB.out.1 HB.out.2.1 HP1.out.2.2.2⟩, ⟨(hE.bx (da, [.slice a1 A.length c1, .int .i64 (ha : Nat)]) (hL _ (by simp))).1.lt, (hE.bx (w.heap.size, [.int .i64 (k : Int), .int .i64 0, .int .i64 m, .slice (some ⟨b, off, none⟩) 2 cap]) (hL _ (by simp))).1.lt, Nat.lt_of_lt_of_le HB.out.1 hE.mw.turn.size⟩⟩)
  have hS9 := HSk.out _ _ _ _ _ EE.out (fun _ h => h)
  have d0 := hS9.1.1
  have d1 := hS9.1.2.1
  have x3 := hS9.1.2.2.1
  have p10 := hS9.1.2.2.2.1
  have p11 := hS9.1.2.2.2.2.1
  have p12 := hS9.1.2.2.2.2.2.1
  have p13 := hS9.1.2.2.2.2.2.2
  have dl := hS9.2.1
  have xl := hS9.2.2.1
  have pl := hS9.2.2.2
  clear hS9
  obtain ⟨C1, hC1⟩ : ∃ C1, Hid (C1 = cat A B) := ⟨_, chid rfl⟩
  obtain ⟨n1, hn1⟩ : ∃ n1, Hid (n1 = C1.length) := ⟨_, chid rfl⟩
  have HT1 := chid (fun (X : World) (v : Value) (hv : PcQ X B v) (hX : PcQ X A (.slice a1 A.length c1)) => ethen_b A B ha hb 1 (.slice a1 A.length c1) v X hX hv (by have := HN.out; have := HLA.out; have := HLB.out; omega) (by have := HN.out; have := HHlA.out; have := HHlB.out; omega) HJB.out C1 hC1.out n1 hn1.out h1 hh1.out)
  have nw0 := Nat.ne_of_lt dl
  have nw0' := Nat.ne_of_gt dl
  have nw1 := Nat.ne_of_lt xl
  have nw1' := Nat.ne_of_gt xl
  have nw2 := Nat.ne_of_lt pl
  have nw2' := Nat.ne_of_gt pl
  go_wp2_with fail
  apply viaP2 (fun dd a2 c2 a3 c3 w' => ∃ vk', (W.heap.size ≤ dd) ∧ Env mb (mft mb vk) W [(dd, [.slice a3 n1 c3, .int .i64 (h1 : Nat)]), (da, [.slice a1 A.length c1, .int .i64 (ha : Nat)]), (w.heap.size, [.int .i64 (k : Int), .int .i64 0, .int .i64 m, .slice (some ⟨b, off, none⟩) 2 cap]), (w.heap.size + 1, [.slice none 0 0, .int .i64 0])] [(C1, .slice a3 n1 c3), (B, .slice a2 B.length c2), (A, .slice a1 A.length c1)] K2 vk' w')
  case hreg =>
    go_region_held3 (fun w' => w'.cell? ⟨da, 0, none⟩ = some (.slice a1 A.length c1) ∧ w'.cell? ⟨da, 1, none⟩ = some (.int .i64 (ha : Nat)) ∧ w'.cell? ⟨w.heap.size, 3, none⟩ = some (.slice (some ⟨b, off, none⟩) 2 cap) ∧ w'.cell? ⟨b, off + 4, none⟩ = some (.int .i64 y.op) ∧ w'.cell? ⟨b, off + 4 + 1, none⟩ = some (.int .i64 y.n) ∧ w'.cell? ⟨b, off + 4 + 2, none⟩ = some (.int .i64 y.m) ∧ w'.cell? ⟨b, off + 4 + 3, none⟩ = some (.slice ax1 y.parts.length cx1)) (simp [go_sem, *]) (first | (go_at_call 11; (first | (refine Calls.mono (HI1.out _ _ ((EE.out.next (bdr _)).core HSx1.out) (EE.out.next (bdr _)).mw.mkr) ?_; intro e u1 g1; obtain ⟨vk5, a2, c2, rfl, E9⟩ := (EE.out.next (bdr _)).call g1; have sz1 := msize g1; clear g1; have hsz := chid (show V.heap.size ≤ u1.heap.size from sz1)) | (refine Calls.mono (HI1.out _ _ (((EE.out.alloc (l := [.slice none 0 0, .int .i64 0]) (t := 55)).next (bdr _)).core HSx1.out) ((EE.out.alloc (l := [.slice none 0 0, .int .i64 0]) (t := 55)).next (bdr _)).mw.mkr) ?_; intro e u1 g1; obtain ⟨vk5, a2, c2, rfl, E9⟩ := ((EE.out.alloc (l := [.slice none 0 0, .int .i64 0]) (t := 55)).next (bdr _)).call g1; have sz1 := msize g1; clear g1; have hsz := chid (show V.heap.size ≤ u1.heap.size from Nat.le_trans (bda V _).size sz1); have Zz := (E9.bx (V.heap.size, [.slice none 0 0, .int .i64 0]) List.mem_cons_self).1; have z0 := Zz.cell 0 _ rfl; have z1 := Zz.cell 1 _ rfl; have zf0 := Zz.free 0 (by simp); have zf1 := Zz.free 1 (by simp); have zl := Zz.lt; clear Zz)); replace EE := chid E9; have hS9 := HSk.out _ _ _ _ _ EE.out (by (simp; done)); replace d0 := hS9.1.1; replace d1 := hS9.1.2.1; replace x3 := hS9.1.2.2.1; replace p10 := hS9.1.2.2.2.1; replace p11 := hS9.1.2.2.2.2.1; replace p12 := hS9.1.2.2.2.2.2.1; replace p13 := hS9.1.2.2.2.2.2.2; replace dl := hS9.2.1; replace xl := hS9.2.2.1; replace pl := hS9.2.2.2; clear hS9; have nu0 := Nat.ne_of_lt dl; have nu0' := Nat.ne_of_gt dl; have nu1 := Nat.ne_of_lt xl; have nu1' := Nat.ne_of_gt xl; have nu2 := Nat.ne_of_lt pl; have nu2' := Nat.ne_of_gt pl; clear E9 sz1) | (go_at_call 13; first | ((refine Calls.mono (HT1.out _ _ (Env.read (EE.out) (by (simp; done))) (Env.read (EE.out) (by (simp; done)))) ?_; rintro e u2 ⟨a3, c3, rfl, b2, p2⟩; have E9 := Env.made (EE.out) b2 p2; clear b2 p2); (first | (have Zz := (E9.bx (V.heap.size, [.slice none 0 0, .int .i64 0]) List.mem_cons_self).1; replace z0 := Zz.cell 0 _ rfl; replace z1 := Zz.cell 1 _ rfl; replace zf0 := Zz.free 0 (by simp); replace zf1 := Zz.free 1 (by simp); replace zl := Zz.lt; clear Zz) | skip); replace EE := chid E9; have hS9 := HSk.out _ _ _ _ _ EE.out (by (simp; done)); replace d0 := hS9.1.1; replace d1 := hS9.1.2.1; replace x3 := hS9.1.2.2.1; replace p10 := hS9.1.2.2.2.1; replace p11 := hS9.1.2.2.2.2.1; replace p12 := hS9.1.2.2.2.2.2.1; replace p13 := hS9.1.2.2.2.2.2.2; replace dl := hS9.2.1; replace xl := hS9.2.2.1; replace pl := hS9.2.2.2; clear hS9; clear E9) | ((refine Calls.mono (HT1.out _ _ (Env.read ((EE.out.alloc (l := [.slice none 0 0, .int .i64 0]) (t := 55))) (by (simp; done))) (Env.read ((EE.out.alloc (l := [.slice none 0 0, .int .i64 0]) (t := 55))) (by (simp; done)))) ?_; rintro e u2 ⟨a3, c3, rfl, b2, p2⟩; have E9 := Env.made ((EE.out.alloc (l := [.slice none 0 0, .int .i64 0]) (t := 55))) b2 p2; clear b2 p2); have Zz := (E9.bx (u1.heap.size, [.slice none 0 0, .int .i64 0]) List.mem_cons_self).1; have z0 := Zz.cell 0 _ rfl; have z1 := Zz.cell 1 _ rfl; have zf0 := Zz.free 0 (by simp); have zf1 := Zz.free 1 (by simp); have zl := Zz.lt; clear Zz; replace EE := chid E9; have hS9 := HSk.out _ _ _ _ _ EE.out (by (simp; done)); replace d0 := hS9.1.1; replace d1 := hS9.1.2.1; replace x3 := hS9.1.2.2.1; replace p10 := hS9.1.2.2.2.1; replace p11 := hS9.1.2.2.2.2.1; replace p12 := hS9.1.2.2.2.2.2.1; replace p13 := hS9.1.2.2.2.2.2.2; replace dl := hS9.2.1; replace xl := hS9.2.2.1; replace pl := hS9.2.2.2; clear hS9; clear E9)))
    · obtain ⟨dd, hdd⟩ : ∃ dd, dd = u2.heap.size := ⟨_, rfl⟩
      rw [← hdd]
      refine ⟨dd, a2, c2, a3, c3, rfl, ?_⟩
      rw [hdd]
      exact ⟨_, EE.out.mw.turn.size, EE.out.alloc (l := [.slice a3 n1 c3, .int .i64 (h1 : Nat)])⟩
    · obtain ⟨dd, hdd⟩ : ∃ dd, dd = u1.heap.size := ⟨_, rfl⟩
      rw [← hdd]
      refine ⟨dd, a2, c2, a3, c3, rfl, ?_⟩
      rw [hdd]
      exact ⟨_, by have h7 := hsz.out; have h8 := HWV.out; omega, EE.out.put2 (fun p hp => by have h7 := HLt.out p hp; have h8 := hsz.out; omega) (by have h7 := hsz.out; have h8 := HWV.out; omega)⟩
    · obtain ⟨dd, hdd⟩ : ∃ dd, dd = V.heap.size := ⟨_, rfl⟩
      rw [← hdd]
      refine ⟨dd, a2, c2, a3, c3, rfl, ?_⟩
      rw [hdd]
      exact ⟨_, HWV.out, EE.out.put2 (fun p hp => by have h7 := HLt.out p hp; omega) HWV.out⟩
  case hrest =>
    intro dd a2 c2 a3 c3 w4 hG
    obtain ⟨vk4, HDD, E4⟩ := hG
    clear HSk d0 d1 x3 p10 p11 p12 p13 dl xl pl nw0 nw0' nw1 nw1' nw2 nw2' HT1
    replace EE := chid E4
    have HDd := chid HDD
    clear E4 HDD
    have HSk : Hid (∀ L' PS' K' vk' u, Env mb (mft mb vk) W L' PS' K' vk' u → (∀ p, p ∈ [(dd, [.slice a3 n1 c3, .int .i64 (h1 : Nat)]), (da, [.slice a1 A.length c1, .int .i64 (ha : Nat)]), (w.heap.size, [.int .i64 (k : Int), .int .i64 0, .int .i64 m, .slice (some ⟨b, off, none⟩) 2 cap]), (w.heap.size + 1, [.slice none 0 0, .int .i64 0])] → p ∈ L') → (fun w' => w'.cell? ⟨w.heap.size, 0, none⟩ = some (.int .i64 (k : Int)) ∧ w'.cell? ⟨dd, 0, none⟩ = some (.slice a3 n1 c3) ∧ w'.cell? ⟨dd, 1, none⟩ = some (.int .i64 (h1 : Nat))) u ∧ w.heap.size < u.heap.size ∧ dd < u.heap.size) := chid (fun _ _ _ _ u hE hL => ⟨⟨(hE.bx (w.heap.size, [.int .i64 (k : Int), .int .i64 0, .int .i64 m, .slice (some ⟨b, off, none⟩) 2 cap]) (hL _ (by simp))).1.cell 0 _ rfl, (hE.bx (dd, [.slice a3 n1 c3, .int .i64 (h1 : Nat)]) (hL _ (by simp))).1.cell 0 _ rfl, (hE.bx (dd, [.slice a3 n1 c3, .int .i64 (h1 : Nat)]) (hL _ (by simp))).1.cell 1 _ rfl⟩, ⟨(hE.bx (w.heap.size, [.int .i64 (k : Int), .int .i64 0, .int .i64 m, .slice (some ⟨b, off, none⟩) 2 cap]) (hL _ (by simp))).1.lt, (hE.bx (dd, [.slice a3 n1 c3, .int .i64 (h1 : Nat)]) (hL _ (by simp))).1.lt⟩⟩)
    have hS9 := HSk.out _ _ _ _ _ EE.out (fun _ h => h)
    have x0 := hS9.1.1
    have d0 := hS9.1.2.1
    have d1 := hS9.1.2.2
    have xl := hS9.2.1
    have dl := hS9.2.2
    clear hS9
    obtain ⟨C9, hC9⟩ : ∃ C9, Hid (C9 = cat C1 [(op, 0)]) := ⟨_, chid rfl⟩
    obtain ⟨n9, hn9⟩ : ∃ n9, Hid (n9 = C9.length) := ⟨_, chid rfl⟩
    have HC9 : Hid (cat (cat A B) [(op, 0)] = C9) := chid (by rw [hC9.out, hC1.out])
    have hw1 : IntKind.i64.wrap (12 + (k : Int)) = 12 + (k : Int) := by rw [IntKind.wrap_i64]; omega
    have hw2 : IntKind.i64.wrap (12 + (k : Int) - 14) = 12 + (k : Int) - 14 := by rw [IntKind.wrap_i64]; omega
    have HJo : Hid (JB [(op, 0)]) := chid (JB.one (fun _ => by omega))
    have HT2 := chid (fun (X : World) (v : Value) (hv : PcQ X [(op, 0)] v) (hX : PcQ X C1 (.slice a3 n1 c3)) => ethen_b C1 [(op, 0)] h1 0 1 (.slice a3 n1 c3) v X hX hv (by have := HN.out; have := HLA.out; have := HLB.out; rw [hC1.out, cat_len]; simp only [List.length_singleton] at *; omega) (by have := HN.out; have := HHlA.out; have := HHlB.out; have := hh1.out; omega) HJo.out C9 hC9.out n9 hn9.out h1 (by have := hh1.out; omega))
    have nr1 : dd ≠ w.heap.size + 1 := by have := HDd.out; have := hWs.out; omega
    have nr1' : w.heap.size + 1 ≠ dd := fun e => nr1 e.symm
    have HWV4 : Hid (w.heap.size + 1 < w4.heap.size) := chid (EE.out.bx (w.heap.size + 1, [.slice none 0 0, .int .i64 0]) (by simp)).1.lt
    go_wp2_with fail
    go_region_held3 (fun w' => w'.cell? ⟨w.heap.size, 0, none⟩ = some (.int .i64 (k : Int)) ∧ w'.cell? ⟨dd, 0, none⟩ = some (.slice a3 n1 c3) ∧ w'.cell? ⟨dd, 1, none⟩ = some (.int .i64 (h1 : Nat))) (simp [go_sem, *]) (first | (go_at_call 14; rw [← hop.out]; refine Calls.mono (eone_b op 0 0 _) ?_; rintro e u1 ⟨a4, c4, rfl, b1, p1⟩; have Hsz1 := chid b1.size; have E9 := Env.made (EE.out.next (bdr _)) b1 p1; clear b1 p1; replace EE := chid E9; have hS9 := HSk.out _ _ _ _ _ EE.out (by (simp; done)); replace x0 := hS9.1.1; replace d0 := hS9.1.2.1; replace d1 := hS9.1.2.2; replace xl := hS9.2.1; replace dl := hS9.2.2; clear hS9; clear E9) | (go_at_call 13; refine Calls.mono (HT2.out _ _ (Env.read (EE.out) (by (simp; done))) (Env.read (EE.out) (by (simp; done)))) ?_; rintro e u2 ⟨a5, c5, rfl, b2, p2⟩; have HPl := chid p2; have E9 := Env.made (EE.out) b2 p2; clear b2 p2; replace EE := chid E9; have hS9 := HSk.out _ _ _ _ _ EE.out (by (simp; done)); replace x0 := hS9.1.1; replace d0 := hS9.1.2.1; replace d1 := hS9.1.2.2; replace xl := hS9.2.1; replace dl := hS9.2.2; clear hS9; clear E9; have Zz := (EE.out.bx (w.heap.size + 1, [.slice none 0 0, .int .i64 0]) (by simp)).1; have z0 := Zz.cell 0 _ rfl; have z1 := Zz.cell 1 _ rfl; have zf0 := Zz.free 0 (by simp); have zf1 := Zz.free 1 (by simp); have zl := Zz.lt; clear Zz))
    go_wp2_with fail
    refine bodyPost_ret (v := pcV (.slice a5 n9 c5) h1) (by simp [results, Tryd.results11, go_sem, *]) rfl ?_
    rw [HC9.out]
    exact Mw.res HGe.out HBW.out (Nat.le_succ _) (by rw [hWs.out]; omega) EE.out.mw HPl.out (Nat.lt_of_lt_of_le HWV4.out Hsz1.out) _ _

theorem fit_zero {k : Nat} {wn cn ln : Int} {c : Co} (hk : k = 3 ∨ (8 ≤ k ∧ k ≠ 13)) (h : fitsB k wn cn ln c = true) : c.n = 0 := by
  unfold fitsB at h
  rw [if_neg (by omega), if_neg (by omega), if_neg (by omega), if_neg (by omega), if_neg (by omega), if_neg (by omega), if_neg (by omega)] at h
  simp only [Bool.and_eq_true, decide_eq_true_eq] at h
  exact h.1
set_option maxHeartbeats 2000000 in
set_option maxRecDepth 20000 in
theorem val_1 (n m : Int) : ValD ⟨1, n, m, []⟩ := by
  intro v mb K vk w hs h hC hK
  have hcn := cnodes_pos ⟨1, n, m, []⟩
  obtain ⟨ad, cap, rfl, k1, k2⟩ := hs.parts.shape
  obtain ⟨Y0, Y1, YB⟩ := two_boxes w 30 55 [.int .i64 1, .int .i64 n, .int .i64 m, .slice ad 0 cap] [.slice none 0 0, .int .i64 0]
  have HGe : Hid (∀ i, i ∈ mft mb vk → i < w.heap.size) := chid (fun i hi => (h.ge i hi).2)
  have HBW := chid YB
  have hWs : Hid (((w.alloc (.cells #[.int .i64 1, .int .i64 n, .int .i64 m, .slice ad 0 cap] 30)).alloc (.cells #[.slice none 0 0, .int .i64 0] 55)).heap.size = w.heap.size + 2) := by show _ = _; simp
  have EE := chid (Env.start h YB Y0 Y1)
  have HH : Hid (hgtF ⟨1, n, m, []⟩ = 1) := chid (hgt_leaf rfl (by show (1 : Int) ≠ 29; decide))
  have HE : Hid (codF ⟨1, n, m, []⟩ K = ([(1, ((K.idxOf n : Nat) : Int))], numK K n)) := chid (by rw [codF_eq, codO_num _ (by exact .inl rfl)]; rfl)
  rw [HE.out, HH.out]
  have HN := chid (And.intro hC hK)
  clear hs h hC Y0 Y1 YB k1 k2
  go_enter Tryd.func11, Tryd.ntmps11
  go_wp2_with fail
  generalize hW : ((w.alloc _).alloc _) = W at *
  clear hW
  refine Calls.mono (enum_c mb K vk n W EE.out.mw.mkr (by omega)) ?_
  rintro e u2 ⟨vk5, v5, rfl, q5, p5⟩
  obtain ⟨a5, c5, rfl⟩ := own_shape p5
  have HPl := chid p5
  have E9 := EE.out.turned q5
  clear q5 p5
  have Zz := (E9.bx (w.heap.size + 1, [.slice none 0 0, .int .i64 0]) (by simp)).1
  have z0 := Zz.cell 0 _ rfl
  have z1 := Zz.cell 1 _ rfl
  have zf0 := Zz.free 0 (by simp)
  have zf1 := Zz.free 1 (by simp)
  have zl := Zz.lt
  replace EE := chid E9
  clear Zz E9
  go_wp2_with fail
  refine bodyPost_ret (v := pcV (.slice a5 [((1 : Int), ((K.idxOf n : Nat) : Int))].length c5) 1) (by simp [results, Tryd.results11, go_sem, *]) rfl ?_
  exact Mw.res HGe.out HBW.out (Nat.le_succ _) (by rw [hWs.out]; omega) EE.out.mw HPl.out (by rw [hWs.out]; omega) _ _
set_option maxHeartbeats 2000000 in
set_option maxRecDepth 20000 in
theorem val_2 (n m : Int) : ValD ⟨2, n, m, []⟩ := by
  intro v mb K vk w hs h hC hK
  have hcn := cnodes_pos ⟨2, n, m, []⟩
  obtain ⟨ad, cap, rfl, k1, k2⟩ := hs.parts.shape
  obtain ⟨Y0, Y1, YB⟩ := two_boxes w 30 55 [.int .i64 2, .int .i64 n, .int .i64 m, .slice ad 0 cap] [.slice none 0 0, .int .i64 0]
  have HGe : Hid (∀ i, i ∈ mft mb vk → i < w.heap.size) := chid (fun i hi => (h.ge i hi).2)
  have HBW := chid YB
  have hWs : Hid (((w.alloc (.cells #[.int .i64 2, .int .i64 n, .int .i64 m, .slice ad 0 cap] 30)).alloc (.cells #[.slice none 0 0, .int .i64 0] 55)).heap.size = w.heap.size + 2) := by show _ = _; simp
  have EE := chid (Env.start h YB Y0 Y1)
  have HH : Hid (hgtF ⟨2, n, m, []⟩ = 1) := chid (hgt_leaf rfl (by show (2 : Int) ≠ 29; decide))
  have HE : Hid (codF ⟨2, n, m, []⟩ K = ([(1, ((K.idxOf n : Nat) : Int))], numK K n)) := chid (by rw [codF_eq, codO_num _ (by exact .inr rfl)]; rfl)
  rw [HE.out, HH.out]
  have HN := chid (And.intro hC hK)
  clear hs h hC Y0 Y1 YB k1 k2
  go_enter Tryd.func11, Tryd.ntmps11
  go_wp2_with fail
  generalize hW : ((w.alloc _).alloc _) = W at *
  clear hW
  refine Calls.mono (enum_c mb K vk n W EE.out.mw.mkr (by omega)) ?_
  rintro e u2 ⟨vk5, v5, rfl, q5, p5⟩
  obtain ⟨a5, c5, rfl⟩ := own_shape p5
  have HPl := chid p5
  have E9 := EE.out.turned q5
  clear q5 p5
  have Zz := (E9.bx (w.heap.size + 1, [.slice none 0 0, .int .i64 0]) (by simp)).1
  have z0 := Zz.cell 0 _ rfl
  have z1 := Zz.cell 1 _ rfl
  have zf0 := Zz.free 0 (by simp)
  have zf1 := Zz.free 1 (by simp)
  have zl := Zz.lt
  replace EE := chid E9
  clear Zz E9
  go_wp2_with fail
  refine bodyPost_ret (v := pcV (.slice a5 [((1 : Int), ((K.idxOf n : Nat) : Int))].length c5) 1) (by simp [results, Tryd.results11, go_sem, *]) rfl ?_
  exact Mw.res HGe.out HBW.out (Nat.le_succ _) (by rw [hWs.out]; omega) EE.out.mw HPl.out (by rw [hWs.out]; omega) _ _
set_option maxHeartbeats 2000000 in
set_option maxRecDepth 20000 in
theorem val_3 (n m : Int) (hn0 : n = 0) : ValD ⟨3, n, m, []⟩ := by
  intro v mb K vk w hs h hC hK
  have hcn := cnodes_pos ⟨3, n, m, []⟩
  subst hn0
  obtain ⟨ad, cap, rfl, k1, k2⟩ := hs.parts.shape
  obtain ⟨Y0, Y1, YB⟩ := two_boxes w 30 55 [.int .i64 3, .int .i64 0, .int .i64 m, .slice ad 0 cap] [.slice none 0 0, .int .i64 0]
  have HGe : Hid (∀ i, i ∈ mft mb vk → i < w.heap.size) := chid (fun i hi => (h.ge i hi).2)
  have HBW := chid YB
  have hWs : Hid (((w.alloc (.cells #[.int .i64 3, .int .i64 0, .int .i64 m, .slice ad 0 cap] 30)).alloc (.cells #[.slice none 0 0, .int .i64 0] 55)).heap.size = w.heap.size + 2) := by show _ = _; simp
  have EE := chid (Env.start h YB Y0 Y1)
  have HH : Hid (hgtF ⟨3, 0, m, []⟩ = 1) := chid (hgt_leaf rfl (by show (3 : Int) ≠ 29; decide))
  have HE : Hid (codF ⟨3, 0, m, []⟩ K = ([(2, 0)], K)) := chid (by
    rw [codF_eq, codO_rest _ ⟨by show (3 : Int) ≠ 1; decide, by show (3 : Int) ≠ 2; decide, by show (3 : Int) ≠ 7; decide, by show (3 : Int) ≠ 13; decide, by show (3 : Int) ≠ 25; decide, by show (3 : Int) ≠ 26; decide, by show (3 : Int) ≠ 28; decide, by show (3 : Int) ≠ 27; decide, by show (3 : Int) ≠ 32; decide⟩]
    show (cat [] [(plnI 3, 0)], K) = _
    rw [nil_cat]
    rfl)
  rw [HE.out, HH.out]
  have HN := chid (And.intro hC hK)
  clear hs h hC Y0 Y1 YB k1 k2
  go_enter Tryd.func11, Tryd.ntmps11
  go_wp2_with fail
  generalize hW : ((w.alloc _).alloc _) = W at *
  clear hW
  refine Calls.mono (eone_b 2 0 1 W) ?_
  rintro e u2 ⟨a5, c5, rfl, b5, p5⟩
  have HPl := chid p5
  have E9 := EE.out.next b5
  clear b5 p5
  have Zz := (E9.bx (w.heap.size + 1, [.slice none 0 0, .int .i64 0]) (by simp)).1
  have z0 := Zz.cell 0 _ rfl
  have z1 := Zz.cell 1 _ rfl
  have zf0 := Zz.free 0 (by simp)
  have zf1 := Zz.free 1 (by simp)
  have zl := Zz.lt
  replace EE := chid E9
  clear Zz E9
  go_wp2_with fail
  refine bodyPost_ret (v := pcV (.slice a5 1 c5) 1) (by simp [results, Tryd.results11, go_sem, *]) rfl ?_
  exact Mw.res HGe.out HBW.out (Nat.le_succ _) (by rw [hWs.out]; omega) EE.out.mw HPl.out (by rw [hWs.out]; omega) _ _
set_option maxHeartbeats 2000000 in
set_option maxRecDepth 20000 in
theorem val_4 (n m : Int) : ValD ⟨4, n, m, []⟩ := by
  intro v mb K vk w hs h hC hK
  have hcn := cnodes_pos ⟨4, n, m, []⟩
  obtain ⟨ad, cap, rfl, k1, k2⟩ := hs.parts.shape
  obtain ⟨Y0, Y1, YB⟩ := two_boxes w 30 55 [.int .i64 4, .int .i64 n, .int .i64 m, .slice ad 0 cap] [.slice none 0 0, .int .i64 0]
  have HGe : Hid (∀ i, i ∈ mft mb vk → i < w.heap.size) := chid (fun i hi => (h.ge i hi).2)
  have HBW := chid YB
  have hWs : Hid (((w.alloc (.cells #[.int .i64 4, .int .i64 n, .int .i64 m, .slice ad 0 cap] 30)).alloc (.cells #[.slice none 0 0, .int .i64 0] 55)).heap.size = w.heap.size + 2) := by show _ = _; simp
  have EE := chid (Env.start h YB Y0 Y1)
  have HH : Hid (hgtF ⟨4, n, m, []⟩ = 1) := chid (hgt_leaf rfl (by show (4 : Int) ≠ 29; decide))
  have HE : Hid (codF ⟨4, n, m, []⟩ K = ([(3, n)], K)) := chid (by
    rw [codF_eq, codO_rest _ ⟨by show (4 : Int) ≠ 1; decide, by show (4 : Int) ≠ 2; decide, by show (4 : Int) ≠ 7; decide, by show (4 : Int) ≠ 13; decide, by show (4 : Int) ≠ 25; decide, by show (4 : Int) ≠ 26; decide, by show (4 : Int) ≠ 28; decide, by show (4 : Int) ≠ 27; decide, by show (4 : Int) ≠ 32; decide⟩]
    show (cat [] [(plnI 4, n)], K) = _
    rw [nil_cat]
    rfl)
  rw [HE.out, HH.out]
  have HN := chid (And.intro hC hK)
  clear hs h hC Y0 Y1 YB k1 k2
  go_enter Tryd.func11, Tryd.ntmps11
  go_wp2_with fail
  generalize hW : ((w.alloc _).alloc _) = W at *
  clear hW
  refine Calls.mono (eone_b 3 n 1 W) ?_
  rintro e u2 ⟨a5, c5, rfl, b5, p5⟩
  have HPl := chid p5
  have E9 := EE.out.next b5
  clear b5 p5
  have Zz := (E9.bx (w.heap.size + 1, [.slice none 0 0, .int .i64 0]) (by simp)).1
  have z0 := Zz.cell 0 _ rfl
  have z1 := Zz.cell 1 _ rfl
  have zf0 := Zz.free 0 (by simp)
  have zf1 := Zz.free 1 (by simp)
  have zl := Zz.lt
  replace EE := chid E9
  clear Zz E9
  go_wp2_with fail
  refine bodyPost_ret (v := pcV (.slice a5 1 c5) 1) (by simp [results, Tryd.results11, go_sem, *]) rfl ?_
  exact Mw.res HGe.out HBW.out (Nat.le_succ _) (by rw [hWs.out]; omega) EE.out.mw HPl.out (by rw [hWs.out]; omega) _ _
set_option maxHeartbeats 2000000 in
set_option maxRecDepth 20000 in
theorem val_5 (n m : Int) : ValD ⟨5, n, m, []⟩ := by
  intro v mb K vk w hs h hC hK
  have hcn := cnodes_pos ⟨5, n, m, []⟩
  obtain ⟨ad, cap, rfl, k1, k2⟩ := hs.parts.shape
  obtain ⟨Y0, Y1, YB⟩ := two_boxes w 30 55 [.int .i64 5, .int .i64 n, .int .i64 m, .slice ad 0 cap] [.slice none 0 0, .int .i64 0]
  have HGe : Hid (∀ i, i ∈ mft mb vk → i < w.heap.size) := chid (fun i hi => (h.ge i hi).2)
  have HBW := chid YB
  have hWs : Hid (((w.alloc (.cells #[.int .i64 5, .int .i64 n, .int .i64 m, .slice ad 0 cap] 30)).alloc (.cells #[.slice none 0 0, .int .i64 0] 55)).heap.size = w.heap.size + 2) := by show _ = _; simp
  have EE := chid (Env.start h YB Y0 Y1)
  have HH : Hid (hgtF ⟨5, n, m, []⟩ = 1) := chid (hgt_leaf rfl (by show (5 : Int) ≠ 29; decide))
  have HE : Hid (codF ⟨5, n, m, []⟩ K = ([(4, n)], K)) := chid (by
    rw [codF_eq, codO_rest _ ⟨by show (5 : Int) ≠ 1; decide, by show (5 : Int) ≠ 2; decide, by show (5 : Int) ≠ 7; decide, by show (5 : Int) ≠ 13; decide, by show (5 : Int) ≠ 25; decide, by show (5 : Int) ≠ 26; decide, by show (5 : Int) ≠ 28; decide, by show (5 : Int) ≠ 27; decide, by show (5 : Int) ≠ 32; decide⟩]
    show (cat [] [(plnI 5, n)], K) = _
    rw [nil_cat]
    rfl)
  rw [HE.out, HH.out]
  have HN := chid (And.intro hC hK)
  clear hs h hC Y0 Y1 YB k1 k2
  go_enter Tryd.func11, Tryd.ntmps11
  go_wp2_with fail
  generalize hW : ((w.alloc _).alloc _) = W at *
  clear hW
  refine Calls.mono (eone_b 4 n 1 W) ?_
  rintro e u2 ⟨a5, c5, rfl, b5, p5⟩
  have HPl := chid p5
  have E9 := EE.out.next b5
  clear b5 p5
  have Zz := (E9.bx (w.heap.size + 1, [.slice none 0 0, .int .i64 0]) (by simp)).1
  have z0 := Zz.cell 0 _ rfl
  have z1 := Zz.cell 1 _ rfl
  have zf0 := Zz.free 0 (by simp)
  have zf1 := Zz.free 1 (by simp)
  have zl := Zz.lt
  replace EE := chid E9
  clear Zz E9
  go_wp2_with fail
  refine bodyPost_ret (v := pcV (.slice a5 1 c5) 1) (by simp [results, Tryd.results11, go_sem, *]) rfl ?_
  exact Mw.res HGe.out HBW.out (Nat.le_succ _) (by rw [hWs.out]; omega) EE.out.mw HPl.out (by rw [hWs.out]; omega) _ _
set_option maxHeartbeats 2000000 in
set_option maxRecDepth 20000 in
theorem val_6 (n m : Int) : ValD ⟨6, n, m, []⟩ := by
  intro v mb K vk w hs h hC hK
  have hcn := cnodes_pos ⟨6, n, m, []⟩
  obtain ⟨ad, cap, rfl, k1, k2⟩ := hs.parts.shape
  obtain ⟨Y0, Y1, YB⟩ := two_boxes w 30 55 [.int .i64 6, .int .i64 n, .int .i64 m, .slice ad 0 cap] [.slice none 0 0, .int .i64 0]
  have HGe : Hid (∀ i, i ∈ mft mb vk → i < w.heap.size) := chid (fun i hi => (h.ge i hi).2)
  have HBW := chid YB
  have hWs : Hid (((w.alloc (.cells #[.int .i64 6, .int .i64 n, .int .i64 m, .slice ad 0 cap] 30)).alloc (.cells #[.slice none 0 0, .int .i64 0] 55)).heap.size = w.heap.size + 2) := by show _ = _; simp
  have EE := chid (Env.start h YB Y0 Y1)
  have HH : Hid (hgtF ⟨6, n, m, []⟩ = 1) := chid (hgt_leaf rfl (by show (6 : Int) ≠ 29; decide))
  have HE : Hid (codF ⟨6, n, m, []⟩ K = ([(5, n)], K)) := chid (by
    rw [codF_eq, codO_rest _ ⟨by show (6 : Int) ≠ 1; decide, by show (6 : Int) ≠ 2; decide, by show (6 : Int) ≠ 7; decide, by show (6 : Int) ≠ 13; decide, by show (6 : Int) ≠ 25; decide, by show (6 : Int) ≠ 26; decide, by show (6 : Int) ≠ 28; decide, by show (6 : Int) ≠ 27; decide, by show (6 : Int) ≠ 32; decide⟩]
    show (cat [] [(plnI 6, n)], K) = _
    rw [nil_cat]
    rfl)
  rw [HE.out, HH.out]
  have HN := chid (And.intro hC hK)
  clear hs h hC Y0 Y1 YB k1 k2
  go_enter Tryd.func11, Tryd.ntmps11
  go_wp2_with fail
  generalize hW : ((w.alloc _).alloc _) = W at *
  clear hW
  refine Calls.mono (eone_b 5 n 1 W) ?_
  rintro e u2 ⟨a5, c5, rfl, b5, p5⟩
  have HPl := chid p5
  have E9 := EE.out.next b5
  clear b5 p5
  have Zz := (E9.bx (w.heap.size + 1, [.slice none 0 0, .int .i64 0]) (by simp)).1
  have z0 := Zz.cell 0 _ rfl
  have z1 := Zz.cell 1 _ rfl
  have zf0 := Zz.free 0 (by simp)
  have zf1 := Zz.free 1 (by simp)
  have zl := Zz.lt
  replace EE := chid E9
  clear Zz E9
  go_wp2_with fail
  refine bodyPost_ret (v := pcV (.slice a5 1 c5) 1) (by simp [results, Tryd.results11, go_sem, *]) rfl ?_
  exact Mw.res HGe.out HBW.out (Nat.le_succ _) (by rw [hWs.out]; omega) EE.out.mw HPl.out (by rw [hWs.out]; omega) _ _
theorem val_all (wn cn : Int) (nl : Nat) (hnl : nl ≤ 1000000) : ∀ t : Co, csort ladF wn cn nl t = 1 ∨ csort ladF wn cn nl t = 2 → ValD t := by
  refine Co.ind fun t ih hz => ?_
  obtain ⟨k, hop, h1, h2, hb, hp, hs⟩ := shp_of (show csort ladF wn cn nl t ≠ 0 by omega)
  have hlf := leaf_sort (show csort ladF wn cn nl t ≠ 0 by omega) hop
  generalize csort ladF wn cn nl t = s at hz hs hlf
  obtain ⟨o, n, m, P⟩ := t
  have hop' : o = (k : Int) := hop
  subst hop'
  rcases hs with ⟨hk, hps⟩ | ⟨hk, hs, x, hps, hx⟩ | ⟨hk, hs, x, hps, hx⟩ | ⟨hk, hs, x, y, hps, hx, hy⟩ | ⟨hk, hs, x, y, hps, hx, hy⟩ | ⟨hk, hs, x, y, hps, hx, hy⟩ | ⟨hk, hs, x, y, z, hps, hx, hy, hzz⟩ | ⟨hk, hs, x, hps, hx⟩ | ⟨hk, hs, hl⟩
  · have e : P = [] := hps
    subst e
    rcases hlf hk hps with ⟨-, rfl⟩ | ⟨h6, -⟩
    · omega
    · have hc : k = 1 ∨ k = 2 ∨ k = 3 ∨ k = 4 ∨ k = 5 ∨ k = 6 := by omega
      rcases hc with rfl | rfl | rfl | rfl | rfl | rfl
      · exact val_1 n m
      · exact val_2 n m
      · have hb' : (decide (n = 0) && (decide (m = 0))) = true := hb
        simp only [Bool.and_eq_true, decide_eq_true_eq] at hb'
        exact val_3 n m hb'.1
      · exact val_4 n m
      · exact val_5 n m
      · exact val_6 n m
  · have e : P = [x] := hps
    subst e hk
    have hb' : (belowB n nl && decide (m = 0)) = true := hb
    unfold belowB at hb'
    simp only [Bool.and_eq_true, decide_eq_true_eq] at hb'
    have zx : csort ladF wn cn nl x = 1 ∨ csort ladF wn cn nl x = 2 := by omega
    exact val_memo wn cn nl hnl n m hb'.1.1 hb'.1.2 x (ih x (by simp) zx) zx
  · have e : P = [x] := hps
    subst e
    have zx : csort ladF wn cn nl x = 1 ∨ csort ladF wn cn nl x = 2 := by rw [hx, hs]; split <;> simp
    by_cases h13 : k = 13
    · subst h13
      exact val_scale wn cn nl hnl n m x (ih x (by simp) zx) zx
    · have hn : n = 0 := fit_zero (by omega) hb
      exact val_one wn cn nl hnl k (by omega) (by omega) n m x hn (ih x (by simp) zx) zx
  · have e : P = [x, y] := hps
    subst e
    exact val_two wn cn nl hnl k (by omega) (by omega) n m x y (fit_zero (by omega) hb) (ih x (by simp) (.inl hx)) (.inl hx) (ih y (by simp) (.inl hy)) (.inl hy)
  · have e : P = [x, y] := hps
    subst e
    rcases hk with rfl | rfl
    · exact val_and wn cn nl hnl n m x y (ih x (by simp) (.inr hx)) (.inr hx) (ih y (by simp) (.inr hy)) (.inr hy)
    · exact val_or wn cn nl hnl n m x y (ih x (by simp) (.inr hx)) (.inr hx) (ih y (by simp) (.inr hy)) (.inr hy)
  · have e : P = [x, y] := hps
    subst e hk
    have zx : csort ladF wn cn nl x = 1 ∨ csort ladF wn cn nl x = 2 := by omega
    have zy : csort ladF wn cn nl y = 1 ∨ csort ladF wn cn nl y = 2 := by omega
    exact val_either wn cn nl hnl n m x y (ih x (by simp) zx) zx (ih y (by simp) zy) zy
  · have e : P = [x, y, z] := hps
    subst e hk
    have zy : csort ladF wn cn nl y = 1 ∨ csort ladF wn cn nl y = 2 := by omega
    have zz : csort ladF wn cn nl z = 1 ∨ csort ladF wn cn nl z = 2 := by omega
    exact val_if wn cn nl hnl n m x y z (ih x (by simp) (.inr hx)) (.inr hx) (ih y (by simp) zy) zy (ih z (by simp) zz) zz
  · omega
  · omega
end Go.Proofs.YtigldebdljfnbaaDoor

import Derived.Test.YtigldebdljfnbaaDoorNbI
namespace Go.Proofs.YtigldebdljfnbaaDoor
open Go.RowKit

theorem Env.start {w W : World} {mb : Nat} {K : List Int} {vk : Value} {cl rl : List Value} (h : Mkr w mb K vk) (YB : Below w.heap.size w W) (Y0 : Box W w.heap.size cl) (Y1 : Box W (w.heap.size + 1) rl) : Env mb (mft mb vk) W [(w.heap.size, cl), (w.heap.size + 1, rl)] [] K vk W := by
  have hn : ∀ i, w.heap.size ≤ i → i ∉ mft mb vk := fun i hi hm => by have := (h.ge i hm).2; omega
  refine ⟨Mw.start (h.next YB), fun i hi => (h.ge i hi).1, fun p hp => ?_, fun q hq => by (cases hq), fun p _ q hq => by (cases hq)⟩
  simp only [List.mem_cons, List.not_mem_nil, or_false] at hp
  rcases hp with rfl | rfl
  · exact ⟨Y0, hn _ (Nat.le_refl _)⟩
  · exact ⟨Y1, hn _ (Nat.le_succ _)⟩
set_option maxHeartbeats 4000000 in
set_option maxRecDepth 20000 in
theorem val_memo (wn cn : Int) (nl : Nat) (hln : nl ≤ 1000000) (n m : Int) (hn0 : 0 ≤ n) (hn1 : n < nl) (x : Co) (ih : ValD x) (zx : csort ladF wn cn nl x = 1 ∨ csort ladF wn cn nl x = 2) : ValD ⟨7, n, m, [x]⟩ := by
  intro v mb K vk w hs h hC hK
  have hcn : cnodes ⟨7, n, m, [x]⟩ = 1 + cnodes x := by rw [cnodes_eq]; simp only [cnodesL_cons, cnodesL_nil]; omega
  rw [hcn] at hC hK
  obtain ⟨b, off, cap, rfl, k1, k2, hbl, hbb, hx⟩ := hs.parts.open (by show 0 < 1; decide)
  obtain ⟨Y0, Y1, YB⟩ := two_boxes w 30 55 [.int .i64 7, .int .i64 n, .int .i64 m, .slice (some ⟨b, off, none⟩) 1 cap] [.slice none 0 0, .int .i64 0]
  obtain ⟨ax0, cx0, sx0, y00, y01, y02, y03⟩ := epart_at hx hbl YB (i := 0) (x := x) rfl
  rw [show off + 0 * 4 = off by omega] at y00 y01 y02 y03
  have HP0 := chid (And.intro y00 (And.intro y01 (And.intro y02 y03)))
  have yl := Nat.lt_of_lt_of_le hbl YB.size
  have HB := chid (And.intro yl hbb)
  have HGe : Hid (∀ i, i ∈ mft mb vk → i < w.heap.size) := chid (fun i hi => (h.ge i hi).2)
  have HBW := chid YB
  have hWs : Hid (((w.alloc (.cells #[.int .i64 7, .int .i64 n, .int .i64 m, .slice (some ⟨b, off, none⟩) 1 cap] 30)).alloc (.cells #[.slice none 0 0, .int .i64 0] 55)).heap.size = w.heap.size + 2) := by show _ = _; simp
  have EE := chid (Env.start h YB Y0 Y1)
  have HI := chid (ih (.slice ax0 x.parts.length cx0) mb K vk _ sx0 (h.next YB) (by omega) (by omega))
  obtain ⟨A, K1, hA⟩ : ∃ A K1, Hid (codF x K = (A, K1)) := ⟨_, _, chid rfl⟩
  have HL := chid (cod_lb x K)
  have HJ := chid (cod_jb (wn := wn) (cn := cn) (t := x) (by omega) hln (by omega) K)
  have HE : Hid (codF ⟨7, n, m, [x]⟩ K = (cat (cat [(27, n * 16384 + ((A.length + 1 + 1 : Nat) : Int))] A) [(28, n)], K1)) := chid (by
    rw [codF_eq]
    unfold codO
    simp only [show ¬ ((7 : Int) = 1 ∨ (7 : Int) = 2) by decide, if_false, if_true]
    show overM 27 (n * 16384) (codF x) [(28, n)] K = _
    unfold overM
    simp only [hA.out]
    rfl)
  rw [hA.out] at HL HI HJ
  have HHp := chid (hgt_pos x zx)
  have HH : Hid (hgtF ⟨7, n, m, [x]⟩ = hgtF x) := chid (hgt_1 rfl (by show (7 : Int) ≠ 29; decide))
  have HHl := chid (hgt_le x)
  rw [HE.out, HH.out]
  obtain ⟨ha, hha⟩ : ∃ ha, Hid (ha = hgtF x) := ⟨_, chid rfl⟩
  rw [← hha.out] at HI HHp HHl ⊢
  have HN := chid (And.intro hC (And.intro hK (And.intro hn0 (And.intro hn1 hln))))
  clear hs h hln hC hK hcn zx hn0 hn1 Y0 Y1 YB sx0 hx hbl hbb k1 k2 ih
  go_enter Tryd.func11, Tryd.ntmps11
  go_wp2_with fail
  generalize hW : ((w.alloc _).alloc _) = W at *
  clear hW
  refine Calls.mono HI.out ?_
  intro e w1 g1
  obtain ⟨vk1, a1, c1, rfl, E1⟩ := EE.out.call g1
  have HWV : Hid (W.heap.size ≤ w1.heap.size) := chid E1.mw.turn.size
  replace EE := chid E1
  have x0 := (E1.bx (w.heap.size, [.int .i64 7, .int .i64 n, .int .i64 m, .slice (some ⟨b, off, none⟩) 1 cap]) (by simp)).1.cell 0 _ rfl
  have x1 := (E1.bx (w.heap.size, [.int .i64 7, .int .i64 n, .int .i64 m, .slice (some ⟨b, off, none⟩) 1 cap]) (by simp)).1.cell 1 _ rfl
  have xl := (E1.bx (w.heap.size, [.int .i64 7, .int .i64 n, .int .i64 m, .slice (some ⟨b, off, none⟩) 1 cap]) (by simp)).1.lt
  clear g1 E1 y00 y01 y02 y03 yl
  go_wp2_with fail
  have E2 := EE.out.alloc (l := [.slice a1 A.length c1, .int .i64 (ha : Nat)]) (t := 55)
  obtain ⟨da, hda⟩ : ∃ da, da = w1.heap.size := ⟨_, rfl⟩
  rw [← hda] at E2 HWV ⊢
  have hda' := chid hda
  generalize hV : (w1.alloc _) = V at *
  clear hV hda x0 x1 xl
  have HDa := chid (And.intro HWV.out E2.mw.turn.size)
  replace HWV := chid E2.mw.turn.size
  replace EE := chid E2
  have HLt := chid E2.lts
  clear E2 hda'
  have HSk : Hid (∀ L' PS' K' vk' u, Env mb (mft mb vk) W L' PS' K' vk' u → (∀ p, p ∈ [(da, [.slice a1 A.length c1, .int .i64 (ha : Nat)]), (w.heap.size, [.int .i64 7, .int .i64 n, .int .i64 m, .slice (some ⟨b, off, none⟩) 1 cap]), (w.heap.size + 1, [.slice none 0 0, .int .i64 0])] → p ∈ L') → (fun w' => w'.cell? ⟨w.heap.size, 1, none⟩ = some (.int .i64 n) ∧ w'.cell? ⟨da, 0, none⟩ = some (.slice a1 A.length c1) ∧ w'.cell? ⟨da, 1, none⟩ = some (.int .i64 (ha : Nat))) u ∧ w.heap.size < u.heap.size ∧ da < u.heap.size) := chid (fun _ _ _ _ u hE hL => ⟨⟨(hE.bx (w.heap.size, [.int .i64 7, .int .i64 n, .int .i64 m, .slice (some ⟨b, off, none⟩) 1 cap]) (hL _ (by simp))).1.cell 1 _ rfl, (hE.bx (da, [.slice a1 A.length c1, .int .i64 (ha : Nat)]) (hL _ (by simp))).1.cell 0 _ rfl, (hE.bx (da, [.slice a1 A.length c1, .int .i64 (ha : Nat)]) (hL _ (by simp))).1.cell 1 _ rfl⟩, ⟨(hE.bx (w.heap.size, [.int .i64 7, .int .i64 n, .int .i64 m, .slice (some ⟨b, off, none⟩) 1 cap]) (hL _ (by simp))).1.lt, (hE.bx (da, [.slice a1 A.length c1, .int .i64 (ha : Nat)]) (hL _ (by simp))).1.lt⟩⟩)
  have hS9 := HSk.out _ _ _ _ _ EE.out (fun _ h => h)
  have x1 := hS9.1.1
  have d0 := hS9.1.2.1
  have d1 := hS9.1.2.2
  have xl := hS9.2.1
  have dl := hS9.2.2
  clear hS9
  obtain ⟨C1, hC1⟩ : ∃ C1, Hid (C1 = cat [(27, n * 16384 + ((A.length : Int) + 2))] A) := ⟨_, chid rfl⟩
  obtain ⟨n1, hn1⟩ : ∃ n1, Hid (n1 = C1.length) := ⟨_, chid rfl⟩
  obtain ⟨h1, hh1⟩ : ∃ h1, Hid (h1 = max 1 ha) := ⟨_, chid rfl⟩
  have hw1 : IntKind.i64.wrap (n * 16384) = n * 16384 := by have := HN.out; rw [IntKind.wrap_i64]; omega
  have hw2 : IntKind.i64.wrap ((A.length : Int) + 2) = (A.length : Int) + 2 := by have := HN.out; have := HL.out; rw [IntKind.wrap_i64]; simp only at *; omega
  have hw3 : IntKind.i64.wrap (n * 16384 + ((A.length : Int) + 2)) = n * 16384 + ((A.length : Int) + 2) := by have := HN.out; have := HL.out; rw [IntKind.wrap_i64]; simp only at *; omega
  have HT1 := chid (fun (X : World) (v : Value) (hv : PcQ X [(27, n * 16384 + ((A.length : Int) + 2))] v) (hX : PcQ X A (.slice a1 A.length c1)) => ethen_b [(27, n * 16384 + ((A.length : Int) + 2))] A 1 ha 0 v (.slice a1 A.length c1) X hv hX (by have := HN.out; have := HL.out; simp only [List.length_singleton] at *; omega) (by have := HN.out; have := HHl.out; omega) HJ.out C1 hC1.out n1 hn1.out h1 (by have := hh1.out; omega))
  have nw0 := Nat.ne_of_lt xl
  have nw0' := Nat.ne_of_gt xl
  have nw1 := Nat.ne_of_lt dl
  have nw1' := Nat.ne_of_gt dl
  apply viaP2 (fun dd a2 c2 a3 c3 w' => ∃ vk', (W.heap.size ≤ dd) ∧ Env mb (mft mb vk) W [(dd, [.slice a3 n1 c3, .int .i64 (h1 : Nat)]), (da, [.slice a1 A.length c1, .int .i64 (ha : Nat)]), (w.heap.size, [.int .i64 7, .int .i64 n, .int .i64 m, .slice (some ⟨b, off, none⟩) 1 cap]), (w.heap.size + 1, [.slice none 0 0, .int .i64 0])] [(C1, .slice a3 n1 c3), ([(27, n * 16384 + ((A.length : Int) + 2))], .slice a2 1 c2), (A, .slice a1 A.length c1)] K1 vk' w')
  case hreg =>
    go_region_held3 (fun w' => w'.cell? ⟨w.heap.size, 1, none⟩ = some (.int .i64 n) ∧ w'.cell? ⟨da, 0, none⟩ = some (.slice a1 A.length c1) ∧ w'.cell? ⟨da, 1, none⟩ = some (.int .i64 (ha : Nat))) (simp [go_sem, *]) (first | (go_at_call 14; refine Calls.mono (eone_b 27 (n * 16384 + ((A.length : Int) + 2)) 1 _) ?_; rintro e u1 ⟨a2, c2, rfl, b1, p1⟩; have sz1 := b1.size; (first | (have E9 := Env.made (EE.out.next (bdr _)) b1 p1; have hsz := chid (show V.heap.size ≤ u1.heap.size from sz1)) | (have E9 := Env.made ((EE.out.alloc (l := [.slice none 0 0, .int .i64 0]) (t := 55)).next (bdr _)) b1 p1; have hsz := chid (show V.heap.size ≤ u1.heap.size from Nat.le_trans (bda V _).size sz1); have Zz := (E9.bx (V.heap.size, [.slice none 0 0, .int .i64 0]) List.mem_cons_self).1; have z0 := Zz.cell 0 _ rfl; have z1 := Zz.cell 1 _ rfl; have zf0 := Zz.free 0 (by simp); have zf1 := Zz.free 1 (by simp); have zl := Zz.lt; clear Zz)); replace EE := chid E9; have hS9 := HSk.out _ _ _ _ _ EE.out (by (simp; done)); replace x1 := hS9.1.1; replace d0 := hS9.1.2.1; replace d1 := hS9.1.2.2; replace xl := hS9.2.1; replace dl := hS9.2.2; clear hS9; have nu0 := Nat.ne_of_lt xl; have nu0' := Nat.ne_of_gt xl; have nu1 := Nat.ne_of_lt dl; have nu1' := Nat.ne_of_gt dl; clear E9 sz1) | (go_at_call 13; first | ((refine Calls.mono (HT1.out _ _ (Env.read (EE.out) (by (simp; done))) (Env.read (EE.out) (by (simp; done)))) ?_; rintro e u2 ⟨a3, c3, rfl, b2, p2⟩; have E9 := Env.made (EE.out) b2 p2; clear b2 p2); (first | (have Zz := (E9.bx (V.heap.size, [.slice none 0 0, .int .i64 0]) List.mem_cons_self).1; replace z0 := Zz.cell 0 _ rfl; replace z1 := Zz.cell 1 _ rfl; replace zf0 := Zz.free 0 (by simp); replace zf1 := Zz.free 1 (by simp); replace zl := Zz.lt; clear Zz) | skip); replace EE := chid E9; have hS9 := HSk.out _ _ _ _ _ EE.out (by (simp; done)); replace x1 := hS9.1.1; replace d0 := hS9.1.2.1; replace d1 := hS9.1.2.2; replace xl := hS9.2.1; replace dl := hS9.2.2; clear hS9; clear E9) | ((refine Calls.mono (HT1.out _ _ (Env.read ((EE.out.alloc (l := [.slice none 0 0, .int .i64 0]) (t := 55))) (by (simp; done))) (Env.read ((EE.out.alloc (l := [.slice none 0 0, .int .i64 0]) (t := 55))) (by (simp; done)))) ?_; rintro e u2 ⟨a3, c3, rfl, b2, p2⟩; have E9 := Env.made ((EE.out.alloc (l := [.slice none 0 0, .int .i64 0]) (t := 55))) b2 p2; clear b2 p2); have Zz := (E9.bx (u1.heap.size, [.slice none 0 0, .int .i64 0]) List.mem_cons_self).1; have z0 := Zz.cell 0 _ rfl; have z1 := Zz.cell 1 _ rfl; have zf0 := Zz.free 0 (by simp); have zf1 := Zz.free 1 (by simp); have zl := Zz.lt; clear Zz; replace EE := chid E9; have hS9 := HSk.out _ _ _ _ _ EE.out (by (simp; done)); replace x1 := hS9.1.1; replace d0 := hS9.1.2.1; replace d1 := hS9.1.2.2; replace xl := hS9.2.1; replace dl := hS9.2.2; clear hS9; clear E9)))
    · obtain ⟨dd, hdd⟩ : ∃ dd, dd = u2.heap.size := ⟨_, rfl⟩
      rw [← hdd]
      refine ⟨dd, a2, c2, a3, c3, rfl, ?_⟩
      rw [hdd]
      exact ⟨_, EE.out.mw.turn.size, EE.out.alloc (l := [.slice a3 n1 c3, .int .i64 (h1 : Nat)])⟩
    · obtain ⟨dd, hdd⟩ : ∃ dd, dd = u1.heap.size := ⟨_, rfl⟩
      rw [← hdd]
      refine ⟨dd, a2, c2, a3, c3, rfl, ?_⟩
      rw [hdd]
      exact ⟨_, by have h7 := hsz.out; have h8 := HWV.out; omega, EE.out.put2 (fun p hp => by have h7 := HLt.out p hp; have h8 := hsz.out; omega) (by have h7 := hsz.out; have h8 := HWV.out; omega)⟩
    · obtain ⟨dd, hdd⟩ : ∃ dd, dd = V.heap.size := ⟨_, rfl⟩
      rw [← hdd]
      refine ⟨dd, a2, c2, a3, c3, rfl, ?_⟩
      rw [hdd]
      exact ⟨_, HWV.out, EE.out.put2 (fun p hp => by have h7 := HLt.out p hp; omega) HWV.out⟩
  case hrest =>
    intro dd a2 c2 a3 c3 w4 hG
    obtain ⟨vk4, HDD, E4⟩ := hG
    clear HSk x1 d0 d1 xl dl nw0 nw0' nw1 nw1' HT1 hw1 hw2 hw3
    replace EE := chid E4
    have HDd := chid HDD
    clear E4 HDD
    have HSk : Hid (∀ L' PS' K' vk' u, Env mb (mft mb vk) W L' PS' K' vk' u → (∀ p, p ∈ [(dd, [.slice a3 n1 c3, .int .i64 (h1 : Nat)]), (da, [.slice a1 A.length c1, .int .i64 (ha : Nat)]), (w.heap.size, [.int .i64 7, .int .i64 n, .int .i64 m, .slice (some ⟨b, off, none⟩) 1 cap]), (w.heap.size + 1, [.slice none 0 0, .int .i64 0])] → p ∈ L') → (fun w' => w'.cell? ⟨w.heap.size, 1, none⟩ = some (.int .i64 n) ∧ w'.cell? ⟨dd, 0, none⟩ = some (.slice a3 n1 c3) ∧ w'.cell? ⟨dd, 1, none⟩ = some (.int .i64 (h1 : Nat))) u ∧ w.heap.size < u.heap.size ∧ dd < u.heap.size) := chid (fun _ _ _ _ u hE hL => ⟨⟨(hE.bx (w.heap.size, [.int .i64 7, .int .i64 n, .int .i64 m, .slice (some ⟨b, off, none⟩) 1 cap]) (hL _ (by simp))).1.cell 1 _ rfl, (hE.bx (dd, [.slice a3 n1 c3, .int .i64 (h1 : Nat)]) (hL _ (by simp))).1.cell 0 _ rfl, (hE.bx (dd, [.slice a3 n1 c3, .int .i64 (h1 : Nat)]) (hL _ (by simp))).1.cell 1 _ rfl⟩, ⟨(hE.bx (w.heap.size, [.int .i64 7, .int .i64 n, .int .i64 m, .slice (some ⟨b, off, none⟩) 1 cap]) (hL _ (by simp))).1.lt, (hE.bx (dd, [.slice a3 n1 c3, .int .i64 (h1 : Nat)]) (hL _ (by simp))).1.lt⟩⟩)
    have hS9 := HSk.out _ _ _ _ _ EE.out (fun _ h => h)
    have x1 := hS9.1.1
    have d0 := hS9.1.2.1
    have d1 := hS9.1.2.2
    have xl := hS9.2.1
    have dl := hS9.2.2
    clear hS9
    obtain ⟨C9, hC9⟩ : ∃ C9, Hid (C9 = cat C1 [(28, n)]) := ⟨_, chid rfl⟩
    obtain ⟨n9, hn9⟩ : ∃ n9, Hid (n9 = C9.length) := ⟨_, chid rfl⟩
    have HC9 : Hid (cat (cat [(27, n * 16384 + ((A.length + 1 + 1 : Nat) : Int))] A) [(28, n)] = C9) := chid (by rw [hC9.out, hC1.out, show ((A.length + 1 + 1 : Nat) : Int) = (A.length : Int) + 2 by omega])
    have HT2 := chid (fun (X : World) (v : Value) (hv : PcQ X [(28, n)] v) (hX : PcQ X C1 (.slice a3 n1 c3)) => ethen_b C1 [(28, n)] h1 0 1 (.slice a3 n1 c3) v X hX hv (by have := HN.out; have := HL.out; rw [hC1.out, cat_len]; simp only [List.length_singleton] at *; omega) (by have := HN.out; have := HHl.out; have := hh1.out; omega) (JB.one (fun h => by cases h)) C9 hC9.out n9 hn9.out ha (by have := hh1.out; have := HHp.out; omega))
    have nr1 : dd ≠ w.heap.size + 1 := by have := HDd.out; have := hWs.out; omega
    have nr1' : w.heap.size + 1 ≠ dd := fun e => nr1 e.symm
    have HWV4 : Hid (w.heap.size + 1 < w4.heap.size) := chid (EE.out.bx (w.heap.size + 1, [.slice none 0 0, .int .i64 0]) (by simp)).1.lt
    go_wp2_with fail
    go_region_held3 (fun w' => w'.cell? ⟨w.heap.size, 1, none⟩ = some (.int .i64 n) ∧ w'.cell? ⟨dd, 0, none⟩ = some (.slice a3 n1 c3) ∧ w'.cell? ⟨dd, 1, none⟩ = some (.int .i64 (h1 : Nat))) (simp [go_sem, *]) (first | (go_at_call 14; refine Calls.mono (eone_b 28 n 0 _) ?_; rintro e u1 ⟨a4, c4, rfl, b1, p1⟩; have Hsz1 := chid b1.size; have E9 := Env.made (EE.out.next (bdr _)) b1 p1; clear b1 p1; replace EE := chid E9; have hS9 := HSk.out _ _ _ _ _ EE.out (by (simp; done)); replace x1 := hS9.1.1; replace d0 := hS9.1.2.1; replace d1 := hS9.1.2.2; replace xl := hS9.2.1; replace dl := hS9.2.2; clear hS9; clear E9) | (go_at_call 13; refine Calls.mono (HT2.out _ _ (Env.read (EE.out) (by (simp; done))) (Env.read (EE.out) (by (simp; done)))) ?_; rintro e u2 ⟨a5, c5, rfl, b2, p2⟩; have HPl := chid p2; have E9 := Env.made (EE.out) b2 p2; clear b2 p2; replace EE := chid E9; have hS9 := HSk.out _ _ _ _ _ EE.out (by (simp; done)); replace x1 := hS9.1.1; replace d0 := hS9.1.2.1; replace d1 := hS9.1.2.2; replace xl := hS9.2.1; replace dl := hS9.2.2; clear hS9; clear E9; have Zz := (EE.out.bx (w.heap.size + 1, [.slice none 0 0, .int .i64 0]) (by simp)).1; have z0 := Zz.cell 0 _ rfl; have z1 := Zz.cell 1 _ rfl; have zf0 := Zz.free 0 (by simp); have zf1 := Zz.free 1 (by simp); have zl := Zz.lt; clear Zz))
    go_wp2_with fail
    refine bodyPost_ret (v := pcV (.slice a5 n9 c5) ha) (by simp [results, Tryd.results11, go_sem, *]) rfl ?_
    rw [HC9.out]
    exact Mw.res HGe.out HBW.out (Nat.le_succ _) (by rw [hWs.out]; omega) EE.out.mw HPl.out (Nat.lt_of_lt_of_le HWV4.out Hsz1.out) _ _

set_option maxHeartbeats 4000000 in
set_option maxRecDepth 20000 in
theorem val_scale (wn cn : Int) (nl : Nat) (hnl : nl ≤ 1000000) (n m : Int) (x : Co) (ihx : ValD x) (zx : csort ladF wn cn nl x = 1 ∨ csort ladF wn cn nl x = 2) : ValD ⟨13, n, m, [x]⟩ := by
  intro v mb K vk w hs h hC hK
  have hcn : cnodes ⟨13, n, m, [x]⟩ = 1 + (cnodes x) := by rw [cnodes_eq]; simp only [cnodesL_cons, cnodesL_nil]; omega
  rw [hcn] at hC hK
  obtain ⟨b, off, cap, rfl, k1, k2, hbl, hbb, hx⟩ := hs.parts.open (by show 0 < 1; decide)
  have hmb := h.box.lt
  obtain ⟨Y0, Y1, YB⟩ := two_boxes w 30 55 [.int .i64 13, .int .i64 n, .int .i64 m, .slice (some ⟨b, off, none⟩) 1 cap] [.slice none 0 0, .int .i64 0]
  obtain ⟨ax0, cx0, sx0, y00, y01, y02, y03⟩ := epart_at hx hbl YB (i := 0) (x := x) rfl
  rw [show off + 0 * 4 = off by omega] at y00 y01 y02 y03
  have HP0 := chid (And.intro y00 (And.intro y01 (And.intro y02 y03)))
  have HSx0 := chid sx0
  have yl := Nat.lt_of_lt_of_le hbl YB.size
  have HB := chid (And.intro yl (And.intro hbb hmb))
  have HGe : Hid (∀ i, i ∈ mft mb vk → i < w.heap.size) := chid (fun i hi => (h.ge i hi).2)
  have HBW := chid YB
  have hWs : Hid (((w.alloc (.cells #[.int .i64 13, .int .i64 n, .int .i64 m, .slice (some ⟨b, off, none⟩) 1 cap] 30)).alloc (.cells #[.slice none 0 0, .int .i64 0] 55)).heap.size = w.heap.size + 2) := by show _ = _; simp
  have EE := chid (Env.start h YB Y0 Y1)
  obtain ⟨A, K1, hA⟩ : ∃ A9 K9, Hid (codF x K = (A9, K9)) := ⟨_, _, chid rfl⟩
  have HLA : Hid (A.length ≤ 6 * cnodes x ∧ K1.length ≤ K.length + 2 * cnodes x) := chid (by have h9 := cod_lb x K; rw [hA.out] at h9; exact h9)
  have HJA : Hid (JB A) := chid (by have h9 := cod_jb (wn := wn) (cn := cn) (t := x) (by omega) hnl (by omega) K; rw [hA.out] at h9; exact h9)
  have HHpA := chid (hgt_pos x zx)
  have HHlA := chid (hgt_le x)
  obtain ⟨ha, hha⟩ : ∃ ha, Hid (ha = hgtF x) := ⟨_, chid rfl⟩
  rw [← hha.out] at HHpA HHlA
  have HI0 := chid (fun (vk' : Value) (u : World) (hs' : CSP (fun b => b < mb) u x (.slice ax0 x.parts.length cx0)) (hk : Mkr u mb K vk') => ihx (.slice ax0 x.parts.length cx0) mb K vk' u hs' hk (by omega) (by omega))
  simp only [hA.out, ← hha.out] at HI0
  have HH : Hid (hgtF ⟨13, n, m, [x]⟩ = ha) := chid (by rw [hha.out]; exact hgt_1 rfl (by show (13 : Int) ≠ 29; decide))
  have HE : Hid (codF ⟨13, n, m, [x]⟩ K = (cat A [(11, ((pairAt K1 n m : Nat) : Int))], pairK K1 n m)) := chid (by
    rw [codF_eq]
    unfold codO
    simp only [show ¬ ((13 : Int) = 1 ∨ (13 : Int) = 2) by decide, show ¬ (13 : Int) = 7 by decide, if_false, if_true]
    show thenM (codF x) (scaM n m) K = _
    unfold thenM scaM
    simp only [hA.out])
  rw [HE.out, HH.out]
  obtain ⟨K2, hK2⟩ : ∃ K2, Hid (K2 = pairK K1 n m) := ⟨_, chid rfl⟩
  obtain ⟨ix, hix⟩ : ∃ ix, Hid (ix = pairAt K1 n m) := ⟨_, chid rfl⟩
  rw [← hK2.out, ← hix.out]
  have HN := chid (And.intro hC hK)
  clear hs h hC hK hcn hmb Y0 Y1 YB sx0 hx hbl hbb k1 k2 ihx
  go_enter Tryd.func11, Tryd.ntmps11
  go_wp2_with fail
  generalize hW : ((w.alloc _).alloc _) = W at *
  clear hW
  refine Calls.mono (HI0.out vk W HSx0.out EE.out.mw.mkr) ?_
  intro e w1 g1
  obtain ⟨vk1, a1, c1, rfl, E1⟩ := EE.out.call g1
  have HWV : Hid (W.heap.size ≤ w1.heap.size) := chid E1.mw.turn.size
  replace EE := chid E1
  have x0 := (E1.bx (w.heap.size, [.int .i64 13, .int .i64 n, .int .i64 m, .slice (some ⟨b, off, none⟩) 1 cap]) (by simp)).1.cell 0 _ rfl
  have x1 := (E1.bx (w.heap.size, [.int .i64 13, .int .i64 n, .int .i64 m, .slice (some ⟨b, off, none⟩) 1 cap]) (by simp)).1.cell 1 _ rfl
  have x2 := (E1.bx (w.heap.size, [.int .i64 13, .int .i64 n, .int .i64 m, .slice (some ⟨b, off, none⟩) 1 cap]) (by simp)).1.cell 2 _ rfl
  have x3 := (E1.bx (w.heap.size, [.int .i64 13, .int .i64 n, .int .i64 m, .slice (some ⟨b, off, none⟩) 1 cap]) (by simp)).1.cell 3 _ rfl
  have xl := (E1.bx (w.heap.size, [.int .i64 13, .int .i64 n, .int .i64 m, .slice (some ⟨b, off, none⟩) 1 cap]) (by simp)).1.lt
  clear g1 E1 y00 y01 y02 y03 yl
  go_wp2_with fail
  clear x0 x1 x2 x3 xl
  have E2 := EE.out.alloc (l := [.slice a1 A.length c1, .int .i64 (ha : Nat)]) (t := 55)
  obtain ⟨da, hda⟩ : ∃ da, da = w1.heap.size := ⟨_, rfl⟩
  rw [← hda] at E2 HWV ⊢
  generalize hV : (w1.alloc _) = V at *
  clear hV hda
  have HDda := chid HWV.out
  replace HWV := chid E2.mw.turn.size
  replace EE := chid E2
  have HLt := chid E2.lts
  clear E2
  have HSk : Hid (∀ L' PS' K' vk' u, Env mb (mft mb vk) W L' PS' K' vk' u → (∀ p, p ∈ [(da, [.slice a1 A.length c1, .int .i64 (ha : Nat)]), (w.heap.size, [.int .i64 13, .int .i64 n, .int .i64 m, .slice (some ⟨b, off, none⟩) 1 cap]), (w.heap.size + 1, [.slice none 0 0, .int .i64 0])] → p ∈ L') → (fun w' => w'.cell? ⟨w.heap.size, 1, none⟩ = some (.int .i64 n) ∧ w'.cell? ⟨w.heap.size, 2, none⟩ = some (.int .i64 m) ∧ w'.cell? ⟨da, 0, none⟩ = some (.slice a1 A.length c1) ∧ w'.cell? ⟨da, 1, none⟩ = some (.int .i64 (ha : Nat))) u ∧ w.heap.size < u.heap.size ∧ da < u.heap.size) := chid (fun _ _ _ _ u hE hL => ⟨⟨(hE.bx (w.heap.size, [.int .i64 13, .int .i64 n, .int .i64 m, .slice (some ⟨b, off, none⟩) 1 cap]) (hL _ (by simp))).1.cell 1 _ rfl, (hE.bx (w.heap.size, [.int .i64 13, .int .i64 n, .int .i64 m, .slice (some ⟨b, off, none⟩) 1 cap]) (hL _ (by simp))).1.cell 2 _ rfl, (hE.bx (da, [.slice a1 A.length c1, .int .i64 (ha : Nat)]) (hL _ (by simp))).1.cell 0 _ rfl, (hE.bx (da, [.slice a1 A.length c1, .int .i64 (ha : Nat)]) (hL _ (by simp))).1.cell 1 _ rfl⟩, ⟨(hE.bx (w.heap.size, [.int .i64 13, .int .i64 n, .int .i64 m, .slice (some ⟨b, off, none⟩) 1 cap]) (hL _ (by simp))).1.lt, (hE.bx (da, [.slice a1 A.length c1, .int .i64 (ha : Nat)]) (hL _ (by simp))).1.lt⟩⟩)
  have hS9 := HSk.out _ _ _ _ _ EE.out (fun _ h => h)
  have x1 := hS9.1.1
  have x2 := hS9.1.2.1
  have d0 := hS9.1.2.2.1
  have d1 := hS9.1.2.2.2
  have xl := hS9.2.1
  have dl := hS9.2.2
  clear hS9
  obtain ⟨C9, hC9⟩ : ∃ C9, Hid (C9 = cat A [(11, ((ix : Nat) : Int))]) := ⟨_, chid rfl⟩
  obtain ⟨n9, hn9⟩ : ∃ n9, Hid (n9 = C9.length) := ⟨_, chid rfl⟩
  have HC9 : Hid (cat A [(11, ((ix : Nat) : Int))] = C9) := chid hC9.out.symm
  have HT2 := chid (fun (X : World) (v : Value) (hv : PcQ X [(11, ((ix : Nat) : Int))] v) (hX : PcQ X A (.slice a1 A.length c1)) => ethen_b A [(11, ((ix : Nat) : Int))] ha 0 1 (.slice a1 A.length c1) v X hX hv (by have := HN.out; have := HLA.out; simp only [List.length_singleton] at *; omega) (by have := HN.out; have := HHlA.out; omega) (JB.one (fun h => by cases h)) C9 hC9.out n9 hn9.out ha (by have := HHpA.out; omega))
  have nr0 : da ≠ w.heap.size + 1 := by have h7 := HDda.out; have h8 := hWs.out; omega
  have nr0' : w.heap.size + 1 ≠ da := fun e => nr0 e.symm
  have HWV4 : Hid (w.heap.size + 1 < V.heap.size) := chid (EE.out.bx (w.heap.size + 1, [.slice none 0 0, .int .i64 0]) (by simp)).1.lt
  go_wp2_with fail
  go_region_held3 (fun w' => w'.cell? ⟨w.heap.size, 1, none⟩ = some (.int .i64 n) ∧ w'.cell? ⟨w.heap.size, 2, none⟩ = some (.int .i64 m) ∧ w'.cell? ⟨da, 0, none⟩ = some (.slice a1 A.length c1) ∧ w'.cell? ⟨da, 1, none⟩ = some (.int .i64 (ha : Nat))) (simp [go_sem, *]) (first | (go_at_call 24; refine Calls.mono (epair_c mb K1 _ n m _ (EE.out.next (bdr _)).mw.mkr (by have := HN.out; have := HLA.out; omega)) ?_; rintro e u0 ⟨rfl, vk5, q5⟩; have Hsz0 := chid q5.turn.size; rw [← hK2.out] at q5; rw [← hix.out]; have E9 := Env.turned (EE.out.next (bdr _)) q5; clear q5; replace EE := chid E9; have hS9 := HSk.out _ _ _ _ _ EE.out (by (simp; done)); replace x1 := hS9.1.1; replace x2 := hS9.1.2.1; replace d0 := hS9.1.2.2.1; replace d1 := hS9.1.2.2.2; replace xl := hS9.2.1; replace dl := hS9.2.2; clear hS9; clear E9) | (go_at_call 14; refine Calls.mono (eone_b 11 (ix : Nat) 0 _) ?_; rintro e u1 ⟨a4, c4, rfl, b1, p1⟩; have Hsz1 := chid b1.size; have E9 := Env.made (EE.out) b1 p1; clear b1 p1; replace EE := chid E9; have hS9 := HSk.out _ _ _ _ _ EE.out (by (simp; done)); replace x1 := hS9.1.1; replace x2 := hS9.1.2.1; replace d0 := hS9.1.2.2.1; replace d1 := hS9.1.2.2.2; replace xl := hS9.2.1; replace dl := hS9.2.2; clear hS9; clear E9) | (go_at_call 13; refine Calls.mono (HT2.out _ _ (Env.read (EE.out) (by (simp; done))) (Env.read (EE.out) (by (simp; done)))) ?_; rintro e u2 ⟨a5, c5, rfl, b2, p2⟩; have HPl := chid p2; have E9 := Env.made (EE.out) b2 p2; clear b2 p2; replace EE := chid E9; have hS9 := HSk.out _ _ _ _ _ EE.out (by (simp; done)); replace x1 := hS9.1.1; replace x2 := hS9.1.2.1; replace d0 := hS9.1.2.2.1; replace d1 := hS9.1.2.2.2; replace xl := hS9.2.1; replace dl := hS9.2.2; clear hS9; clear E9; have Zz := (EE.out.bx (w.heap.size + 1, [.slice none 0 0, .int .i64 0]) (by simp)).1; have z0 := Zz.cell 0 _ rfl; have z1 := Zz.cell 1 _ rfl; have zf0 := Zz.free 0 (by simp); have zf1 := Zz.free 1 (by simp); have zl := Zz.lt; clear Zz))
  go_wp2_with fail
  refine bodyPost_ret (v := pcV (.slice a5 n9 c5) ha) (by simp [results, Tryd.results11, go_sem, *]) rfl ?_
  rw [HC9.out]
  exact Mw.res HGe.out HBW.out (Nat.le_succ _) (by rw [hWs.out]; omega) EE.out.mw HPl.out (Nat.lt_of_lt_of_le HWV4.out (Nat.le_trans Hsz0.out Hsz1.out)) _ _

theorem efork_b (H A B : List Ins) (hh ha hb h : Nat) (op over : Int) (vh va vb : Value) (X : World) (h0 : PcQ X H vh) (h1 : PcQ X A va) (h2 : PcQ X B vb) (hl : H.length + A.length + B.length ≤ 900000) (hs : hh + ha + hb ≤ 900000) (jA : JB A) (jB : JB B) (hm : h = max hh (max ha hb)) (C : List Ins) (hC : C = frkL H A B op over) (n : Nat) (hn : n = C.length) :
    Calls Tryd.prog 23 #[.agg #[vh, .int .i64 (hh : Nat)], .int .i64 op, .int .i64 over, .int .i64 0, .agg #[va, .int .i64 (ha : Nat)], .agg #[vb, .int .i64 (hb : Nat)]] X fun e u => ∃ aa cc, e = .returned (.agg #[.slice aa n cc, .int .i64 (h : Nat)]) ∧ Below X.heap.size X u ∧ PcR X.heap.size u C (.slice aa n cc) := by
  subst hC hn
  refine (fork_c H A B hh ha hb h op over vh va vb X h0 h1 h2 hl hs jA jB hm).mono ?_
  rintro e u ⟨v, rfl, b, p⟩
  obtain ⟨aa, cc, rfl⟩ := own_shape p
  exact ⟨aa, cc, rfl, b, p⟩
theorem hgt_2' {k n m : Int} {x y : Co} (h : 25 ≤ k ∧ k ≤ 28) : hgtF ⟨k, n, m, [x, y]⟩ = max (hgtF x) (hgtF y) := by
  have h2 := hgt_2 (t := ⟨k, n, m, [x, y]⟩) (x := x) (y := y) rfl (by show k ≠ 29; omega) (by show k ≠ 32; omega)
  have h3 : ¬ (14 ≤ (⟨k, n, m, [x, y]⟩ : Co).op ∧ (⟨k, n, m, [x, y]⟩ : Co).op ≤ 24) := by show ¬ (14 ≤ k ∧ k ≤ 24); omega
  rw [h2, if_neg h3, Nat.zero_add]
set_option maxHeartbeats 4000000 in
set_option maxRecDepth 20000 in
theorem val_and (wn cn : Int) (nl : Nat) (hnl : nl ≤ 1000000) (n m : Int) (x y : Co) (ihx : ValD x) (zx : csort ladF wn cn nl x = 1 ∨ csort ladF wn cn nl x = 2) (ihy : ValD y) (zy : csort ladF wn cn nl y = 1 ∨ csort ladF wn cn nl y = 2) : ValD ⟨25, n, m, [x, y]⟩ := by
  intro v mb K vk w hs h hC hK
  have hcn : cnodes ⟨25, n, m, [x, y]⟩ = 1 + (cnodes x + cnodes y) := by rw [cnodes_eq]; simp only [cnodesL_cons, cnodesL_nil]; omega
  rw [hcn] at hC hK
  obtain ⟨b, off, cap, rfl, k1, k2, hbl, hbb, hx⟩ := hs.parts.open (by show 0 < 2; decide)
  have hmb := h.box.lt
  obtain ⟨Y0, Y1, YB⟩ := two_boxes w 30 55 [.int .i64 25, .int .i64 n, .int .i64 m, .slice (some ⟨b, off, none⟩) 2 cap] [.slice none 0 0, .int .i64 0]
  obtain ⟨ax0, cx0, sx0, y00, y01, y02, y03⟩ := epart_at hx hbl YB (i := 0) (x := x) rfl
  rw [show off + 0 * 4 = off by omega] at y00 y01 y02 y03
  have HP0 := chid (And.intro y00 (And.intro y01 (And.intro y02 y03)))
  have HSx0 := chid sx0
  obtain ⟨ax1, cx1, sx1, y10, y11, y12, y13⟩ := epart_at hx hbl YB (i := 1) (x := y) rfl
  rw [show off + 1 * 4 = off + 4 by omega] at y10 y11 y12 y13
  have HP1 := chid (And.intro y10 (And.intro y11 (And.intro y12 y13)))
  have HSx1 := chid sx1
  have yl := Nat.lt_of_lt_of_le hbl YB.size
  have HB := chid (And.intro yl (And.intro hbb hmb))
  have HGe : Hid (∀ i, i ∈ mft mb vk → i < w.heap.size) := chid (fun i hi => (h.ge i hi).2)
  have HBW := chid YB
  have hWs : Hid (((w.alloc (.cells #[.int .i64 25, .int .i64 n, .int .i64 m, .slice (some ⟨b, off, none⟩) 2 cap] 30)).alloc (.cells #[.slice none 0 0, .int .i64 0] 55)).heap.size = w.heap.size + 2) := by show _ = _; simp
  have EE := chid (Env.start h YB Y0 Y1)
  obtain ⟨A, K1, hA⟩ : ∃ A9 K9, Hid (codF x K = (A9, K9)) := ⟨_, _, chid rfl⟩
  have HLA : Hid (A.length ≤ 6 * cnodes x ∧ K1.length ≤ K.length + 2 * cnodes x) := chid (by have h9 := cod_lb x K; rw [hA.out] at h9; exact h9)
  have HJA : Hid (JB A) := chid (by have h9 := cod_jb (wn := wn) (cn := cn) (t := x) (by omega) hnl (by omega) K; rw [hA.out] at h9; exact h9)
  have HHpA := chid (hgt_pos x zx)
  have HHlA := chid (hgt_le x)
  obtain ⟨ha, hha⟩ : ∃ ha, Hid (ha = hgtF x) := ⟨_, chid rfl⟩
  rw [← hha.out] at HHpA HHlA
  have HI0 := chid (fun (vk' : Value) (u : World) (hs' : CSP (fun b => b < mb) u x (.slice ax0 x.parts.length cx0)) (hk : Mkr u mb K vk') => ihx (.slice ax0 x.parts.length cx0) mb K vk' u hs' hk (by omega) (by omega))
  simp only [hA.out, ← hha.out] at HI0
  obtain ⟨B, K2, hB⟩ : ∃ A9 K9, Hid (codF y K1 = (A9, K9)) := ⟨_, _, chid rfl⟩
  have HLB : Hid (B.length ≤ 6 * cnodes y ∧ K2.length ≤ K1.length + 2 * cnodes y) := chid (by have h9 := cod_lb y K1; rw [hB.out] at h9; exact h9)
  have HJB : Hid (JB B) := chid (by have h9 := cod_jb (wn := wn) (cn := cn) (t := y) (by omega) hnl (by omega) K1; rw [hB.out] at h9; exact h9)
  have HHpB := chid (hgt_pos y zy)
  have HHlB := chid (hgt_le y)
  obtain ⟨hb, hhb⟩ : ∃ ha, Hid (ha = hgtF y) := ⟨_, chid rfl⟩
  rw [← hhb.out] at HHpB HHlB
  have HI1 := chid (fun (vk' : Value) (u : World) (hs' : CSP (fun b => b < mb) u y (.slice ax1 y.parts.length cx1)) (hk : Mkr u mb K1 vk') => ihy (.slice ax1 y.parts.length cx1) mb K1 vk' u hs' hk (by omega) (by have h8 := HLA.out; omega))
  simp only [hB.out, ← hhb.out] at HI1
  obtain ⟨K3, hK3⟩ : ∃ K3, Hid (K3 = numK K2 0) := ⟨_, chid rfl⟩
  obtain ⟨ix, hix⟩ : ∃ ix, Hid (ix = K2.idxOf 0) := ⟨_, chid rfl⟩
  obtain ⟨h9, hh9⟩ : ∃ h9, Hid (h9 = max ha hb) := ⟨_, chid rfl⟩
  have HH : Hid (hgtF ⟨25, n, m, [x, y]⟩ = h9) := chid (by rw [hh9.out]; exact (by rw [hha.out, hhb.out]; exact hgt_2' (by decide)))
  have HE : Hid (codF ⟨25, n, m, [x, y]⟩ K = (cat A (cat (cat (cat [(24, ((B.length + 2 : Nat) : Int))] B) [(23, ((1 + 1 : Nat) : Int))]) [(1, ((ix : Nat) : Int))]), K3)) := chid (by
    rw [codF_eq]
    unfold codO
    simp only [show ¬ (((25 : Int) = 1 ∨ (25 : Int) = 2)) by decide, show ¬ (25 : Int) = 7 by decide, show ¬ (25 : Int) = 13 by decide, if_false, if_true]
    show thenM (codF x) (forkM 24 23 (codF y) (numM 0)) K = _
    unfold thenM forkM numM
    simp only [hA.out, hB.out]
    rw [hix.out, hK3.out]; rfl)
  rw [HE.out, HH.out]
  have HN := chid (And.intro hC hK)
  clear hs h hC hK hcn hmb Y0 Y1 YB sx0 sx1 hx hbl hbb k1 k2 ihx ihy
  go_enter Tryd.func11, Tryd.ntmps11
  go_wp2_with fail
  generalize hW : ((w.alloc _).alloc _) = W at *
  clear hW
  refine Calls.mono (HI0.out vk W HSx0.out EE.out.mw.mkr) ?_
  intro e w1 g1
  obtain ⟨vk1, a1, c1, rfl, E1⟩ := EE.out.call g1
  have HWV : Hid (W.heap.size ≤ w1.heap.size) := chid E1.mw.turn.size
  replace EE := chid E1
  have x0 := (E1.bx (w.heap.size, [.int .i64 25, .int .i64 n, .int .i64 m, .slice (some ⟨b, off, none⟩) 2 cap]) (by simp)).1.cell 0 _ rfl
  have x1 := (E1.bx (w.heap.size, [.int .i64 25, .int .i64 n, .int .i64 m, .slice (some ⟨b, off, none⟩) 2 cap]) (by simp)).1.cell 1 _ rfl
  have x2 := (E1.bx (w.heap.size, [.int .i64 25, .int .i64 n, .int .i64 m, .slice (some ⟨b, off, none⟩) 2 cap]) (by simp)).1.cell 2 _ rfl
  have x3 := (E1.bx (w.heap.size, [.int .i64 25, .int .i64 n, .int .i64 m, .slice (some ⟨b, off, none⟩) 2 cap]) (by simp)).1.cell 3 _ rfl
  have xl := (E1.bx (w.heap.size, [.int .i64 25, .int .i64 n, .int .i64 m, .slice (some ⟨b, off, none⟩) 2 cap]) (by simp)).1.lt
  have p10 := E1.cell HB.out.1 HB.out.2.1 HP1.out.1
  have p11 := E1.cell HB.out.1 HB.out.2.1 HP1.out.2.1
  have p12 := E1.cell HB.out.1 HB.out.2.1 HP1.out.2.2.1
  have p13 := E1.cell HB.out.1 HB.out.2.1 HP1.out.2.2.2
  have pl : b < w1.heap.size := Nat.lt_of_lt_of_le HB.out.1 E1.mw.turn.size
  clear g1 E1 y00 y01 y02 y03 y10 y11 y12 y13 yl
  go_wp2_with fail
  clear x0 x1 x2 x3 xl p10 p11 p12 p13 pl
  have E2 := EE.out.alloc (l := [.slice a1 A.length c1, .int .i64 (ha : Nat)]) (t := 55)
  obtain ⟨da, hda⟩ : ∃ da, da = w1.heap.size := ⟨_, rfl⟩
  rw [← hda] at E2 HWV ⊢
  generalize hV : (w1.alloc _) = V at *
  clear hV hda
  have HDda := chid HWV.out
  replace HWV := chid E2.mw.turn.size
  replace EE := chid E2
  have HLt := chid E2.lts
  clear E2
  refine Calls.mono (HI1.out vk1 V (EE.out.core HSx1.out) EE.out.mw.mkr) ?_
  intro e w2 g2
  obtain ⟨vk2, a2, c2, rfl, E1⟩ := EE.out.call g2
  replace HWV := chid E1.mw.turn.size
  replace EE := chid E1
  clear g2 E1
  go_wp2_with fail
  have E2 := EE.out.alloc (l := [.slice a2 B.length c2, .int .i64 (hb : Nat)]) (t := 55)
  obtain ⟨db, hda⟩ : ∃ da, da = w2.heap.size := ⟨_, rfl⟩
  rw [← hda] at E2 HWV ⊢
  generalize hV : (w2.alloc _) = V2 at *
  clear hV hda
  have HDdb := chid HWV.out
  replace HWV := chid E2.mw.turn.size
  replace EE := chid E2
  have HLt := chid E2.lts
  clear E2
  have HSk : Hid (∀ L' PS' K' vk' u, Env mb (mft mb vk) W L' PS' K' vk' u → (∀ p, p ∈ [(db, [.slice a2 B.length c2, .int .i64 (hb : Nat)]), (da, [.slice a1 A.length c1, .int .i64 (ha : Nat)]), (w.heap.size, [.int .i64 25, .int .i64 n, .int .i64 m, .slice (some ⟨b, off, none⟩) 2 cap]), (w.heap.size + 1, [.slice none 0 0, .int .i64 0])] → p ∈ L') → (fun w' => w'.cell? ⟨da, 0, none⟩ = some (.slice a1 A.length c1) ∧ w'.cell? ⟨da, 1, none⟩ = some (.int .i64 (ha : Nat)) ∧ w'.cell? ⟨db, 0, none⟩ = some (.slice a2 B.length c2) ∧ w'.cell? ⟨db, 1, none⟩ = some (.int .i64 (hb : Nat))) u ∧ da < u.heap.size ∧ db < u.heap.size) := chid (fun _ _ _ _ u hE hL => ⟨⟨(hE.bx (da, [.slice a1 A.length c1, .int .i64 (ha : Nat)]) (hL _ (by simp))).1.cell 0 _ rfl, (hE.bx (da, [.slice a1 A.length c1, .int .i64 (ha : Nat)]) (hL _ (by simp))).1.cell 1 _ rfl, (hE.bx (db, [.slice a2 B.length c2, .int .i64 (hb : Nat)]) (hL _ (by simp))).1.cell 0 _ rfl, (hE.bx (db, [.slice a2 B.length c2, .int .i64 (hb : Nat)]) (hL _ (by simp))).1.cell 1 _ rfl⟩, ⟨(hE.bx (da, [.slice a1 A.length c1, .int .i64 (ha : Nat)]) (hL _ (by simp))).1.lt, (hE.bx (db, [.slice a2 B.length c2, .int .i64 (hb : Nat)]) (hL _ (by simp))).1.lt⟩⟩)
  have hS9 := HSk.out _ _ _ _ _ EE.out (fun _ h => h)
  have d0 := hS9.1.1
  have d1 := hS9.1.2.1
  have e0 := hS9.1.2.2.1
  have e1 := hS9.1.2.2.2
  have dl := hS9.2.1
  have el := hS9.2.2
  clear hS9
  obtain ⟨C9, hC9⟩ : ∃ C9, Hid (C9 = frkL A (B) ([(1, ((ix : Nat) : Int))]) 24 23) := ⟨_, chid rfl⟩
  obtain ⟨n9, hn9⟩ : ∃ n9, Hid (n9 = C9.length) := ⟨_, chid rfl⟩
  have HC9 : Hid (cat A (cat (cat (cat [(24, ((B.length + 2 : Nat) : Int))] B) [(23, ((1 + 1 : Nat) : Int))]) [(1, ((ix : Nat) : Int))]) = C9) := chid (by rw [hC9.out]; unfold frkL; simp only [cat_cat]; (first | done | rfl))
  have HT2 := chid (fun (X : World) (v : Value) (hA' : PcQ X A (.slice a1 A.length c1)) (hB' : PcQ X (B) (.slice a2 B.length c2)) (hD' : PcQ X ([(1, ((ix : Nat) : Int))]) v) => efork_b A (B) ([(1, ((ix : Nat) : Int))]) ha hb 1 h9 24 23 (.slice a1 A.length c1) (.slice a2 B.length c2) v X hA' hB' hD' (by have := HN.out; have := HLA.out; have := HLB.out; simp only [List.length_singleton]; omega) (by have := HN.out; have := HHlA.out; have := HHlB.out; omega) (HJB.out) (JB.one (fun h => by cases h)) (by have := hh9.out; have := HHpA.out; have := HHpB.out; omega) C9 hC9.out n9 hn9.out)
  have nr0 : da ≠ w.heap.size + 1 := by have h7 := HDda.out; have h8 := hWs.out; omega
  have nr0' : w.heap.size + 1 ≠ da := fun e => nr0 e.symm
  have nr1 : db ≠ w.heap.size + 1 := by have h7 := HDdb.out; have h8 := hWs.out; omega
  have nr1' : w.heap.size + 1 ≠ db := fun e => nr1 e.symm
  have HWV4 : Hid (w.heap.size + 1 < V2.heap.size) := chid (EE.out.bx (w.heap.size + 1, [.slice none 0 0, .int .i64 0]) (by simp)).1.lt
  go_wp2_with fail
  go_region_held3 (fun w' => w'.cell? ⟨da, 0, none⟩ = some (.slice a1 A.length c1) ∧ w'.cell? ⟨da, 1, none⟩ = some (.int .i64 (ha : Nat)) ∧ w'.cell? ⟨db, 0, none⟩ = some (.slice a2 B.length c2) ∧ w'.cell? ⟨db, 1, none⟩ = some (.int .i64 (hb : Nat))) (simp [go_sem, *]) (first | (go_at_call 22; refine Calls.mono (enum_c mb K2 _ 0 _ (EE.out.next (bdr _)).mw.mkr (by have := HN.out; have := HLA.out; have := HLB.out; omega)) ?_; intro e u1 g3; rw [← hK3.out, ← hix.out] at g3; obtain ⟨vk5, a4, c4, rfl, E8⟩ := (EE.out.next (bdr _)).callN g3 1 rfl; have Hsz1 := chid (msize g3); have E9 := E8; clear E8 g3; replace EE := chid E9; have hS9 := HSk.out _ _ _ _ _ EE.out (by (simp; done)); replace d0 := hS9.1.1; replace d1 := hS9.1.2.1; replace e0 := hS9.1.2.2.1; replace e1 := hS9.1.2.2.2; replace dl := hS9.2.1; replace el := hS9.2.2; clear hS9; clear E9) | (go_at_call 23; refine Calls.mono (HT2.out _ _ (Env.read (EE.out) (by (simp; done))) (Env.read (EE.out) (by (simp; done))) (Env.read (EE.out) (by (simp; done)))) ?_; rintro e u2 ⟨a5, c5, rfl, b2, p2⟩; have HPl := chid p2; have E9 := Env.made (EE.out) b2 p2; clear b2 p2; replace EE := chid E9; have hS9 := HSk.out _ _ _ _ _ EE.out (by (simp; done)); replace d0 := hS9.1.1; replace d1 := hS9.1.2.1; replace e0 := hS9.1.2.2.1; replace e1 := hS9.1.2.2.2; replace dl := hS9.2.1; replace el := hS9.2.2; clear hS9; clear E9; have Zz := (EE.out.bx (w.heap.size + 1, [.slice none 0 0, .int .i64 0]) (by simp)).1; have z0 := Zz.cell 0 _ rfl; have z1 := Zz.cell 1 _ rfl; have zf0 := Zz.free 0 (by simp); have zf1 := Zz.free 1 (by simp); have zl := Zz.lt; clear Zz))
  go_wp2_with fail
  refine bodyPost_ret (v := pcV (.slice a5 n9 c5) h9) (by simp [results, Tryd.results11, go_sem, *]) rfl ?_
  rw [HC9.out]
  exact Mw.res HGe.out HBW.out (Nat.le_succ _) (by rw [hWs.out]; omega) EE.out.mw HPl.out (Nat.lt_of_lt_of_le HWV4.out Hsz1.out) _ _
set_option maxHeartbeats 4000000 in
set_option maxRecDepth 20000 in
theorem val_or (wn cn : Int) (nl : Nat) (hnl : nl ≤ 1000000) (n m : Int) (x y : Co) (ihx : ValD x) (zx : csort ladF wn cn nl x = 1 ∨ csort ladF wn cn nl x = 2) (ihy : ValD y) (zy : csort ladF wn cn nl y = 1 ∨ csort ladF wn cn nl y = 2) : ValD ⟨26, n, m, [x, y]⟩ := by
  intro v mb K vk w hs h hC hK
  have hcn : cnodes ⟨26, n, m, [x, y]⟩ = 1 + (cnodes x + cnodes y) := by rw [cnodes_eq]; simp only [cnodesL_cons, cnodesL_nil]; omega
  rw [hcn] at hC hK
  obtain ⟨b, off, cap, rfl, k1, k2, hbl, hbb, hx⟩ := hs.parts.open (by show 0 < 2; decide)
  have hmb := h.box.lt
  obtain ⟨Y0, Y1, YB⟩ := two_boxes w 30 55 [.int .i64 26, .int .i64 n, .int .i64 m, .slice (some ⟨b, off, none⟩) 2 cap] [.slice none 0 0, .int .i64 0]
  obtain ⟨ax0, cx0, sx0, y00, y01, y02, y03⟩ := epart_at hx hbl YB (i := 0) (x := x) rfl
  rw [show off + 0 * 4 = off by omega] at y00 y01 y02 y03
  have HP0 := chid (And.intro y00 (And.intro y01 (And.intro y02 y03)))
  have HSx0 := chid sx0
  obtain ⟨ax1, cx1, sx1, y10, y11, y12, y13⟩ := epart_at hx hbl YB (i := 1) (x := y) rfl
  rw [show off + 1 * 4 = off + 4 by omega] at y10 y11 y12 y13
  have HP1 := chid (And.intro y10 (And.intro y11 (And.intro y12 y13)))
  have HSx1 := chid sx1
  have yl := Nat.lt_of_lt_of_le hbl YB.size
  have HB := chid (And.intro yl (And.intro hbb hmb))
  have HGe : Hid (∀ i, i ∈ mft mb vk → i < w.heap.size) := chid (fun i hi => (h.ge i hi).2)
  have HBW := chid YB
  have hWs : Hid (((w.alloc (.cells #[.int .i64 26, .int .i64 n, .int .i64 m, .slice (some ⟨b, off, none⟩) 2 cap] 30)).alloc (.cells #[.slice none 0 0, .int .i64 0] 55)).heap.size = w.heap.size + 2) := by show _ = _; simp
  have EE := chid (Env.start h YB Y0 Y1)
  obtain ⟨A, K1, hA⟩ : ∃ A9 K9, Hid (codF x K = (A9, K9)) := ⟨_, _, chid rfl⟩
  have HLA : Hid (A.length ≤ 6 * cnodes x ∧ K1.length ≤ K.length + 2 * cnodes x) := chid (by have h9 := cod_lb x K; rw [hA.out] at h9; exact h9)
  have HJA : Hid (JB A) := chid (by have h9 := cod_jb (wn := wn) (cn := cn) (t := x) (by omega) hnl (by omega) K; rw [hA.out] at h9; exact h9)
  have HHpA := chid (hgt_pos x zx)
  have HHlA := chid (hgt_le x)
  obtain ⟨ha, hha⟩ : ∃ ha, Hid (ha = hgtF x) := ⟨_, chid rfl⟩
  rw [← hha.out] at HHpA HHlA
  have HI0 := chid (fun (vk' : Value) (u : World) (hs' : CSP (fun b => b < mb) u x (.slice ax0 x.parts.length cx0)) (hk : Mkr u mb K vk') => ihx (.slice ax0 x.parts.length cx0) mb K vk' u hs' hk (by omega) (by omega))
  simp only [hA.out, ← hha.out] at HI0
  obtain ⟨K2, hK2⟩ : ∃ K2, Hid (K2 = numK K1 1) := ⟨_, chid rfl⟩
  obtain ⟨ix, hix⟩ : ∃ ix, Hid (ix = K1.idxOf 1) := ⟨_, chid rfl⟩
  have HK2 : Hid (K2.length ≤ K1.length + 1) := chid (by rw [hK2.out]; exact numK_len K1 1)
  obtain ⟨D, K3, hD⟩ : ∃ A9 K9, Hid (codF y K2 = (A9, K9)) := ⟨_, _, chid rfl⟩
  have HLD : Hid (D.length ≤ 6 * cnodes y ∧ K3.length ≤ K2.length + 2 * cnodes y) := chid (by have h9 := cod_lb y K2; rw [hD.out] at h9; exact h9)
  have HJD : Hid (JB D) := chid (by have h9 := cod_jb (wn := wn) (cn := cn) (t := y) (by omega) hnl (by omega) K2; rw [hD.out] at h9; exact h9)
  have HHpD := chid (hgt_pos y zy)
  have HHlD := chid (hgt_le y)
  obtain ⟨hd, hhd⟩ : ∃ ha, Hid (ha = hgtF y) := ⟨_, chid rfl⟩
  rw [← hhd.out] at HHpD HHlD
  have HI1 := chid (fun (vk' : Value) (u : World) (hs' : CSP (fun b => b < mb) u y (.slice ax1 y.parts.length cx1)) (hk : Mkr u mb K2 vk') => ihy (.slice ax1 y.parts.length cx1) mb K2 vk' u hs' hk (by omega) (by have h8 := HLA.out; have h9 := HK2.out; omega))
  simp only [hD.out, ← hhd.out] at HI1
  obtain ⟨h9, hh9⟩ : ∃ h9, Hid (h9 = max ha hd) := ⟨_, chid rfl⟩
  have HH : Hid (hgtF ⟨26, n, m, [x, y]⟩ = h9) := chid (by rw [hh9.out]; exact (by rw [hha.out, hhd.out]; exact hgt_2' (by decide)))
  have HE : Hid (codF ⟨26, n, m, [x, y]⟩ K = (cat A (cat (cat (cat [(24, (((1 : Nat) + 2 : Nat) : Int))] [(1, ((ix : Nat) : Int))]) [(23, ((1 + D.length : Nat) : Int))]) D), K3)) := chid (by
    rw [codF_eq]
    unfold codO
    simp only [show ¬ (((26 : Int) = 1 ∨ (26 : Int) = 2)) by decide, show ¬ (26 : Int) = 7 by decide, show ¬ (26 : Int) = 13 by decide, show ¬ (26 : Int) = 25 by decide, if_false, if_true]
    show thenM (codF x) (forkM 24 23 (numM 1) (codF y)) K = _
    unfold thenM forkM numM
    simp only [hA.out]
    rw [← hK2.out, ← hix.out]; simp only [hD.out]; rfl)
  rw [HE.out, HH.out]
  have HN := chid (And.intro hC hK)
  clear hs h hC hK hcn hmb Y0 Y1 YB sx0 sx1 hx hbl hbb k1 k2 ihx ihy
  go_enter Tryd.func11, Tryd.ntmps11
  go_wp2_with fail
  generalize hW : ((w.alloc _).alloc _) = W at *
  clear hW
  refine Calls.mono (HI0.out vk W HSx0.out EE.out.mw.mkr) ?_
  intro e w1 g1
  obtain ⟨vk1, a1, c1, rfl, E1⟩ := EE.out.call g1
  have HWV : Hid (W.heap.size ≤ w1.heap.size) := chid E1.mw.turn.size
  replace EE := chid E1
  have x0 := (E1.bx (w.heap.size, [.int .i64 26, .int .i64 n, .int .i64 m, .slice (some ⟨b, off, none⟩) 2 cap]) (by simp)).1.cell 0 _ rfl
  have x1 := (E1.bx (w.heap.size, [.int .i64 26, .int .i64 n, .int .i64 m, .slice (some ⟨b, off, none⟩) 2 cap]) (by simp)).1.cell 1 _ rfl
  have x2 := (E1.bx (w.heap.size, [.int .i64 26, .int .i64 n, .int .i64 m, .slice (some ⟨b, off, none⟩) 2 cap]) (by simp)).1.cell 2 _ rfl
  have x3 := (E1.bx (w.heap.size, [.int .i64 26, .int .i64 n, .int .i64 m, .slice (some ⟨b, off, none⟩) 2 cap]) (by simp)).1.cell 3 _ rfl
  have xl := (E1.bx (w.heap.size, [.int .i64 26, .int .i64 n, .int .i64 m, .slice (some ⟨b, off, none⟩) 2 cap]) (by simp)).1.lt
  clear g1 E1 y00 y01 y02 y03 y10 y11 y12 y13 yl
  go_wp2_with fail
  clear x0 x1 x2 x3 xl
  have E2 := EE.out.alloc (l := [.slice a1 A.length c1, .int .i64 (ha : Nat)]) (t := 55)
  obtain ⟨da, hda⟩ : ∃ da, da = w1.heap.size := ⟨_, rfl⟩
  rw [← hda] at E2 HWV ⊢
  generalize hV : (w1.alloc _) = V at *
  clear hV hda
  have HDda := chid HWV.out
  replace HWV := chid E2.mw.turn.size
  replace EE := chid E2
  have HLt := chid E2.lts
  clear E2
  refine Calls.mono (enum_c mb K1 _ 1 V EE.out.mw.mkr (by have := HN.out; have := HLA.out; omega)) ?_
  intro e w2 g2
  rw [← hK2.out, ← hix.out] at g2
  obtain ⟨vk2, a2, c2, rfl, E1⟩ := EE.out.callN g2 1 rfl
  replace HWV := chid E1.mw.turn.size
  replace EE := chid E1
  clear g2 E1
  go_wp2_with fail
  have E2 := EE.out.alloc (l := [.slice a2 1 c2, .int .i64 (1 : Nat)]) (t := 55)
  obtain ⟨db, hda⟩ : ∃ da, da = w2.heap.size := ⟨_, rfl⟩
  rw [← hda] at E2 HWV ⊢
  generalize hV : (w2.alloc _) = V2 at *
  clear hV hda
  have HDdb := chid HWV.out
  replace HWV := chid E2.mw.turn.size
  replace EE := chid E2
  have HLt := chid E2.lts
  clear E2
  have HSk : Hid (∀ L' PS' K' vk' u, Env mb (mft mb vk) W L' PS' K' vk' u → (∀ p, p ∈ [(db, [.slice a2 1 c2, .int .i64 (1 : Nat)]), (da, [.slice a1 A.length c1, .int .i64 (ha : Nat)]), (w.heap.size, [.int .i64 26, .int .i64 n, .int .i64 m, .slice (some ⟨b, off, none⟩) 2 cap]), (w.heap.size + 1, [.slice none 0 0, .int .i64 0])] → p ∈ L') → (fun w' => w'.cell? ⟨da, 0, none⟩ = some (.slice a1 A.length c1) ∧ w'.cell? ⟨da, 1, none⟩ = some (.int .i64 (ha : Nat)) ∧ w'.cell? ⟨db, 0, none⟩ = some (.slice a2 1 c2) ∧ w'.cell? ⟨db, 1, none⟩ = some (.int .i64 ((1 : Nat) : Int)) ∧ w'.cell? ⟨w.heap.size, 3, none⟩ = some (.slice (some ⟨b, off, none⟩) 2 cap) ∧ w'.cell? ⟨b, off + 4, none⟩ = some (.int .i64 y.op) ∧ w'.cell? ⟨b, off + 4 + 1, none⟩ = some (.int .i64 y.n) ∧ w'.cell? ⟨b, off + 4 + 2, none⟩ = some (.int .i64 y.m) ∧ w'.cell? ⟨b, off + 4 + 3, none⟩ = some (.slice ax1 y.parts.length cx1)) u ∧ da < u.heap.size ∧ db < u.heap.size ∧ w.heap.size < u.heap.size ∧ b < u.heap.size) := chid (fun _ _ _ _ u hE hL => ⟨⟨(hE.bx (da, [.slice a1 A.length c1, .int .i64 (ha : Nat)]) (hL _ (by simp))).1.cell 0 _ rfl, (hE.bx (da, [.slice a1 A.length c1, .int .i64 (ha : Nat)]) (hL _ (by simp))).1.cell 1 _ rfl, (hE.bx (db, [.slice a2 1 c2, .int .i64 (1 : Nat)]) (hL _ (by simp))).1.cell 0 _ rfl, (hE.bx (db, [.slice a2 1 c2, .int .i64 (1 : Nat)]) (hL _ (by simp))).1.cell 1 _ rfl, (hE.bx (w.heap.size, [.int .i64 26, .int .i64 n, .int .i64 m, .slice (some ⟨b, off, none⟩) 2 cap]) (hL _ (by simp))).1.cell 3 _ rfl, hE.cell HB.out.1 HB.out.2.1 HP1.out.1, hE.cell HB.out.1 HB.out.2.1 HP1.out.2.1, hE.cell HB.out.1 HB.out.2.1 HP1.out.2.2.1, hE.cell HB.out.1 HB.out.2.1 HP1.out.2.2.2⟩, ⟨(hE.bx (da, [.slice a1 A.length c1, .int .i64 (ha : Nat)]) (hL _ (by simp))).1.lt, (hE.bx (db, [.slice a2 1 c2, .int .i64 (1 : Nat)]) (hL _ (by simp))).1.lt, (hE.bx (w.heap.size, [.int .i64 26, .int .i64 n, .int .i64 m, .slice (some ⟨b, off, none⟩) 2 cap]) (hL _ (by simp))).1.lt, Nat.lt_of_lt_of_le HB.out.1 hE.mw.turn.size⟩⟩)
  have hS9 := HSk.out _ _ _ _ _ EE.out (fun _ h => h)
  have d0 := hS9.1.1
  have d1 := hS9.1.2.1
  have e0 := hS9.1.2.2.1
  have e1 := hS9.1.2.2.2.1
  have x3 := hS9.1.2.2.2.2.1
  have p10 := hS9.1.2.2.2.2.2.1
  have p11 := hS9.1.2.2.2.2.2.2.1
  have p12 := hS9.1.2.2.2.2.2.2.2.1
  have p13 := hS9.1.2.2.2.2.2.2.2.2
  have dl := hS9.2.1
  have el := hS9.2.2.1
  have xl := hS9.2.2.2.1
  have pl := hS9.2.2.2.2
  clear hS9
  obtain ⟨C9, hC9⟩ : ∃ C9, Hid (C9 = frkL A ([(1, ((ix : Nat) : Int))]) (D) 24 23) := ⟨_, chid rfl⟩
  obtain ⟨n9, hn9⟩ : ∃ n9, Hid (n9 = C9.length) := ⟨_, chid rfl⟩
  have HC9 : Hid (cat A (cat (cat (cat [(24, (((1 : Nat) + 2 : Nat) : Int))] [(1, ((ix : Nat) : Int))]) [(23, ((1 + D.length : Nat) : Int))]) D) = C9) := chid (by rw [hC9.out]; unfold frkL; simp only [cat_cat]; (first | done | rfl))
  have HT2 := chid (fun (X : World) (v : Value) (hA' : PcQ X A (.slice a1 A.length c1)) (hB' : PcQ X ([(1, ((ix : Nat) : Int))]) (.slice a2 1 c2)) (hD' : PcQ X (D) v) => efork_b A ([(1, ((ix : Nat) : Int))]) (D) ha 1 hd h9 24 23 (.slice a1 A.length c1) (.slice a2 1 c2) v X hA' hB' hD' (by have := HN.out; have := HLA.out; have := HLD.out; simp only [List.length_singleton]; omega) (by have := HN.out; have := HHlA.out; have := HHlD.out; omega) (JB.one (fun h => by cases h)) (HJD.out) (by have := hh9.out; have := HHpA.out; have := HHpD.out; omega) C9 hC9.out n9 hn9.out)
  have nr0 : da ≠ w.heap.size + 1 := by have h7 := HDda.out; have h8 := hWs.out; omega
  have nr0' : w.heap.size + 1 ≠ da := fun e => nr0 e.symm
  have nr1 : db ≠ w.heap.size + 1 := by have h7 := HDdb.out; have h8 := hWs.out; omega
  have nr1' : w.heap.size + 1 ≠ db := fun e => nr1 e.symm
  have nr2 : b ≠ w.heap.size + 1 := by have h7 := HB.out.2; omega
  have nr2' : w.heap.size + 1 ≠ b := fun e => nr2 e.symm
  have HWV4 : Hid (w.heap.size + 1 < V2.heap.size) := chid (EE.out.bx (w.heap.size + 1, [.slice none 0 0, .int .i64 0]) (by simp)).1.lt
  go_wp2_with fail
  go_region_held3 (fun w' => w'.cell? ⟨da, 0, none⟩ = some (.slice a1 A.length c1) ∧ w'.cell? ⟨da, 1, none⟩ = some (.int .i64 (ha : Nat)) ∧ w'.cell? ⟨db, 0, none⟩ = some (.slice a2 1 c2) ∧ w'.cell? ⟨db, 1, none⟩ = some (.int .i64 ((1 : Nat) : Int)) ∧ w'.cell? ⟨w.heap.size, 3, none⟩ = some (.slice (some ⟨b, off, none⟩) 2 cap) ∧ w'.cell? ⟨b, off + 4, none⟩ = some (.int .i64 y.op) ∧ w'.cell? ⟨b, off + 4 + 1, none⟩ = some (.int .i64 y.n) ∧ w'.cell? ⟨b, off + 4 + 2, none⟩ = some (.int .i64 y.m) ∧ w'.cell? ⟨b, off + 4 + 3, none⟩ = some (.slice ax1 y.parts.length cx1)) (simp [go_sem, *]) (first | (go_at_call 11; refine Calls.mono (HI1.out _ _ ((EE.out.next (bdr _)).core HSx1.out) (EE.out.next (bdr _)).mw.mkr) ?_; intro e u1 g3; obtain ⟨vk5, a4, c4, rfl, E8⟩ := (EE.out.next (bdr _)).call g3; have Hsz1 := chid (msize g3); have E9 := E8; clear E8 g3; replace EE := chid E9; have hS9 := HSk.out _ _ _ _ _ EE.out (by (simp; done)); replace d0 := hS9.1.1; replace d1 := hS9.1.2.1; replace e0 := hS9.1.2.2.1; replace e1 := hS9.1.2.2.2.1; replace x3 := hS9.1.2.2.2.2.1; replace p10 := hS9.1.2.2.2.2.2.1; replace p11 := hS9.1.2.2.2.2.2.2.1; replace p12 := hS9.1.2.2.2.2.2.2.2.1; replace p13 := hS9.1.2.2.2.2.2.2.2.2; replace dl := hS9.2.1; replace el := hS9.2.2.1; replace xl := hS9.2.2.2.1; replace pl := hS9.2.2.2.2; clear hS9; clear E9) | (go_at_call 23; refine Calls.mono (HT2.out _ _ (Env.read (EE.out) (by (simp; done))) (Env.read (EE.out) (by (simp; done))) (Env.read (EE.out) (by (simp; done)))) ?_; rintro e u2 ⟨a5, c5, rfl, b2, p2⟩; have HPl := chid p2; have E9 := Env.made (EE.out) b2 p2; clear b2 p2; replace EE := chid E9; have hS9 := HSk.out _ _ _ _ _ EE.out (by (simp; done)); replace d0 := hS9.1.1; replace d1 := hS9.1.2.1; replace e0 := hS9.1.2.2.1; replace e1 := hS9.1.2.2.2.1; replace x3 := hS9.1.2.2.2.2.1; replace p10 := hS9.1.2.2.2.2.2.1; replace p11 := hS9.1.2.2.2.2.2.2.1; replace p12 := hS9.1.2.2.2.2.2.2.2.1; replace p13 := hS9.1.2.2.2.2.2.2.2.2; replace dl := hS9.2.1; replace el := hS9.2.2.1; replace xl := hS9.2.2.2.1; replace pl := hS9.2.2.2.2; clear hS9; clear E9; have Zz := (EE.out.bx (w.heap.size + 1, [.slice none 0 0, .int .i64 0]) (by simp)).1; have z0 := Zz.cell 0 _ rfl; have z1 := Zz.cell 1 _ rfl; have zf0 := Zz.free 0 (by simp); have zf1 := Zz.free 1 (by simp); have zl := Zz.lt; clear Zz))
  go_wp2_with fail
  refine bodyPost_ret (v := pcV (.slice a5 n9 c5) h9) (by simp [results, Tryd.results11, go_sem, *]) rfl ?_
  rw [HC9.out]
  exact Mw.res HGe.out HBW.out (Nat.le_succ _) (by rw [hWs.out]; omega) EE.out.mw HPl.out (Nat.lt_of_lt_of_le HWV4.out Hsz1.out) _ _
set_option maxHeartbeats 4000000 in
set_option maxRecDepth 20000 in
theorem val_if (wn cn : Int) (nl : Nat) (hnl : nl ≤ 1000000) (n m : Int) (x y z : Co) (ihx : ValD x) (zx : csort ladF wn cn nl x = 1 ∨ csort ladF wn cn nl x = 2) (ihy : ValD y) (zy : csort ladF wn cn nl y = 1 ∨ csort ladF wn cn nl y = 2) (ihz : ValD z) (zz : csort ladF wn cn nl z = 1 ∨ csort ladF wn cn nl z = 2) : ValD ⟨28, n, m, [x, y, z]⟩ := by
  intro v mb K vk w hs h hC hK
  have hcn : cnodes ⟨28, n, m, [x, y, z]⟩ = 1 + (cnodes x + cnodes y + cnodes z) := by rw [cnodes_eq]; simp only [cnodesL_cons, cnodesL_nil]; omega
  rw [hcn] at hC hK
  obtain ⟨b, off, cap, rfl, k1, k2, hbl, hbb, hx⟩ := hs.parts.open (by show 0 < 3; decide)
  have hmb := h.box.lt
  obtain ⟨Y0, Y1, YB⟩ := two_boxes w 30 55 [.int .i64 28, .int .i64 n, .int .i64 m, .slice (some ⟨b, off, none⟩) 3 cap] [.slice none 0 0, .int .i64 0]
  obtain ⟨ax0, cx0, sx0, y00, y01, y02, y03⟩ := epart_at hx hbl YB (i := 0) (x := x) rfl
  rw [show off + 0 * 4 = off by omega] at y00 y01 y02 y03
  have HP0 := chid (And.intro y00 (And.intro y01 (And.intro y02 y03)))
  have HSx0 := chid sx0
  obtain ⟨ax1, cx1, sx1, y10, y11, y12, y13⟩ := epart_at hx hbl YB (i := 1) (x := y) rfl
  rw [show off + 1 * 4 = off + 4 by omega] at y10 y11 y12 y13
  have HP1 := chid (And.intro y10 (And.intro y11 (And.intro y12 y13)))
  have HSx1 := chid sx1
  obtain ⟨ax2, cx2, sx2, y20, y21, y22, y23⟩ := epart_at hx hbl YB (i := 2) (x := z) rfl
  rw [show off + 2 * 4 = off + 8 by omega] at y20 y21 y22 y23
  have HP2 := chid (And.intro y20 (And.intro y21 (And.intro y22 y23)))
  have HSx2 := chid sx2
  have yl := Nat.lt_of_lt_of_le hbl YB.size
  have HB := chid (And.intro yl (And.intro hbb hmb))
  have HGe : Hid (∀ i, i ∈ mft mb vk → i < w.heap.size) := chid (fun i hi => (h.ge i hi).2)
  have HBW := chid YB
  have hWs : Hid (((w.alloc (.cells #[.int .i64 28, .int .i64 n, .int .i64 m, .slice (some ⟨b, off, none⟩) 3 cap] 30)).alloc (.cells #[.slice none 0 0, .int .i64 0] 55)).heap.size = w.heap.size + 2) := by show _ = _; simp
  have EE := chid (Env.start h YB Y0 Y1)
  obtain ⟨A, K1, hA⟩ : ∃ A9 K9, Hid (codF x K = (A9, K9)) := ⟨_, _, chid rfl⟩
  have HLA : Hid (A.length ≤ 6 * cnodes x ∧ K1.length ≤ K.length + 2 * cnodes x) := chid (by have h9 := cod_lb x K; rw [hA.out] at h9; exact h9)
  have HJA : Hid (JB A) := chid (by have h9 := cod_jb (wn := wn) (cn := cn) (t := x) (by omega) hnl (by omega) K; rw [hA.out] at h9; exact h9)
  have HHpA := chid (hgt_pos x zx)
  have HHlA := chid (hgt_le x)
  obtain ⟨ha, hha⟩ : ∃ ha, Hid (ha = hgtF x) := ⟨_, chid rfl⟩
  rw [← hha.out] at HHpA HHlA
  have HI0 := chid (fun (vk' : Value) (u : World) (hs' : CSP (fun b => b < mb) u x (.slice ax0 x.parts.length cx0)) (hk : Mkr u mb K vk') => ihx (.slice ax0 x.parts.length cx0) mb K vk' u hs' hk (by omega) (by omega))
  simp only [hA.out, ← hha.out] at HI0
  obtain ⟨B, K2, hB⟩ : ∃ A9 K9, Hid (codF y K1 = (A9, K9)) := ⟨_, _, chid rfl⟩
  have HLB : Hid (B.length ≤ 6 * cnodes y ∧ K2.length ≤ K1.length + 2 * cnodes y) := chid (by have h9 := cod_lb y K1; rw [hB.out] at h9; exact h9)
  have HJB : Hid (JB B) := chid (by have h9 := cod_jb (wn := wn) (cn := cn) (t := y) (by omega) hnl (by omega) K1; rw [hB.out] at h9; exact h9)
  have HHpB := chid (hgt_pos y zy)
  have HHlB := chid (hgt_le y)
  obtain ⟨hb, hhb⟩ : ∃ ha, Hid (ha = hgtF y) := ⟨_, chid rfl⟩
  rw [← hhb.out] at HHpB HHlB
  have HI1 := chid (fun (vk' : Value) (u : World) (hs' : CSP (fun b => b < mb) u y (.slice ax1 y.parts.length cx1)) (hk : Mkr u mb K1 vk') => ihy (.slice ax1 y.parts.length cx1) mb K1 vk' u hs' hk (by omega) (by have h8 := HLA.out; omega))
  simp only [hB.out, ← hhb.out] at HI1
  obtain ⟨D, K3, hD⟩ : ∃ A9 K9, Hid (codF z K2 = (A9, K9)) := ⟨_, _, chid rfl⟩
  have HLD : Hid (D.length ≤ 6 * cnodes z ∧ K3.length ≤ K2.length + 2 * cnodes z) := chid (by have h9 := cod_lb z K2; rw [hD.out] at h9; exact h9)
  have HJD : Hid (JB D) := chid (by have h9 := cod_jb (wn := wn) (cn := cn) (t := z) (by omega) hnl (by omega) K2; rw [hD.out] at h9; exact h9)
  have HHpD := chid (hgt_pos z zz)
  have HHlD := chid (hgt_le z)
  obtain ⟨hd, hhd⟩ : ∃ ha, Hid (ha = hgtF z) := ⟨_, chid rfl⟩
  rw [← hhd.out] at HHpD HHlD
  have HI2 := chid (fun (vk' : Value) (u : World) (hs' : CSP (fun b => b < mb) u z (.slice ax2 z.parts.length cx2)) (hk : Mkr u mb K2 vk') => ihz (.slice ax2 z.parts.length cx2) mb K2 vk' u hs' hk (by omega) (by have h8 := HLA.out; have h9 := HLB.out; omega))
  simp only [hD.out, ← hhd.out] at HI2
  obtain ⟨h9, hh9⟩ : ∃ h9, Hid (h9 = max ha (max hb hd)) := ⟨_, chid rfl⟩
  have HH : Hid (hgtF ⟨28, n, m, [x, y, z]⟩ = h9) := chid (by rw [hh9.out]; exact (by rw [hha.out, hhb.out, hhd.out]; exact hgt_3 rfl rfl))
  have HE : Hid (codF ⟨28, n, m, [x, y, z]⟩ K = (cat A (cat (cat (cat [(24, ((B.length + 2 : Nat) : Int))] B) [(23, ((1 + D.length : Nat) : Int))]) D), K3)) := chid (by
    rw [codF_eq]
    unfold codO
    simp only [show ¬ (((28 : Int) = 1 ∨ (28 : Int) = 2)) by decide, show ¬ (28 : Int) = 7 by decide, show ¬ (28 : Int) = 13 by decide, show ¬ (28 : Int) = 25 by decide, show ¬ (28 : Int) = 26 by decide, if_false, if_true]
    show thenM (codF x) (forkM 24 23 (codF y) (codF z)) K = _
    unfold thenM forkM
    simp only [hA.out, hB.out, hD.out]
    (first | done | rfl))
  rw [HE.out, HH.out]
  have HN := chid (And.intro hC hK)
  clear hs h hC hK hcn hmb Y0 Y1 YB sx0 sx1 sx2 hx hbl hbb k1 k2 ihx ihy ihz
  go_enter Tryd.func11, Tryd.ntmps11
  go_wp2_with fail
  generalize hW : ((w.alloc _).alloc _) = W at *
  clear hW
  refine Calls.mono (HI0.out vk W HSx0.out EE.out.mw.mkr) ?_
  intro e w1 g1
  obtain ⟨vk1, a1, c1, rfl, E1⟩ := EE.out.call g1
  have HWV : Hid (W.heap.size ≤ w1.heap.size) := chid E1.mw.turn.size
  replace EE := chid E1
  have x0 := (E1.bx (w.heap.size, [.int .i64 28, .int .i64 n, .int .i64 m, .slice (some ⟨b, off, none⟩) 3 cap]) (by simp)).1.cell 0 _ rfl
  have x1 := (E1.bx (w.heap.size, [.int .i64 28, .int .i64 n, .int .i64 m, .slice (some ⟨b, off, none⟩) 3 cap]) (by simp)).1.cell 1 _ rfl
  have x2 := (E1.bx (w.heap.size, [.int .i64 28, .int .i64 n, .int .i64 m, .slice (some ⟨b, off, none⟩) 3 cap]) (by simp)).1.cell 2 _ rfl
  have x3 := (E1.bx (w.heap.size, [.int .i64 28, .int .i64 n, .int .i64 m, .slice (some ⟨b, off, none⟩) 3 cap]) (by simp)).1.cell 3 _ rfl
  have xl := (E1.bx (w.heap.size, [.int .i64 28, .int .i64 n, .int .i64 m, .slice (some ⟨b, off, none⟩) 3 cap]) (by simp)).1.lt
  have p10 := E1.cell HB.out.1 HB.out.2.1 HP1.out.1
  have p11 := E1.cell HB.out.1 HB.out.2.1 HP1.out.2.1
  have p12 := E1.cell HB.out.1 HB.out.2.1 HP1.out.2.2.1
  have p13 := E1.cell HB.out.1 HB.out.2.1 HP1.out.2.2.2
  have pl : b < w1.heap.size := Nat.lt_of_lt_of_le HB.out.1 E1.mw.turn.size
  clear g1 E1 y00 y01 y02 y03 y10 y11 y12 y13 y20 y21 y22 y23 yl
  go_wp2_with fail
  clear x0 x1 x2 x3 xl p10 p11 p12 p13 pl
  have E2 := EE.out.alloc (l := [.slice a1 A.length c1, .int .i64 (ha : Nat)]) (t := 55)
  obtain ⟨da, hda⟩ : ∃ da, da = w1.heap.size := ⟨_, rfl⟩
  rw [← hda] at E2 HWV ⊢
  generalize hV : (w1.alloc _) = V at *
  clear hV hda
  have HDda := chid HWV.out
  replace HWV := chid E2.mw.turn.size
  replace EE := chid E2
  have HLt := chid E2.lts
  clear E2
  refine Calls.mono (HI1.out vk1 V (EE.out.core HSx1.out) EE.out.mw.mkr) ?_
  intro e w2 g2
  obtain ⟨vk2, a2, c2, rfl, E1⟩ := EE.out.call g2
  replace HWV := chid E1.mw.turn.size
  replace EE := chid E1
  clear g2 E1
  go_wp2_with fail
  have E2 := EE.out.alloc (l := [.slice a2 B.length c2, .int .i64 (hb : Nat)]) (t := 55)
  obtain ⟨db, hda⟩ : ∃ da, da = w2.heap.size := ⟨_, rfl⟩
  rw [← hda] at E2 HWV ⊢
  generalize hV : (w2.alloc _) = V2 at *
  clear hV hda
  have HDdb := chid HWV.out
  replace HWV := chid E2.mw.turn.size
  replace EE := chid E2
  have HLt := chid E2.lts
  clear E2
  have HSk : Hid (∀ L' PS' K' vk' u, Env mb (mft mb vk) W L' PS' K' vk' u → (∀ p, p ∈ [(db, [.slice a2 B.length c2, .int .i64 (hb : Nat)]), (da, [.slice a1 A.length c1, .int .i64 (ha : Nat)]), (w.heap.size, [.int .i64 28, .int .i64 n, .int .i64 m, .slice (some ⟨b, off, none⟩) 3 cap]), (w.heap.size + 1, [.slice none 0 0, .int .i64 0])] → p ∈ L') → (fun w' => w'.cell? ⟨da, 0, none⟩ = some (.slice a1 A.length c1) ∧ w'.cell? ⟨da, 1, none⟩ = some (.int .i64 (ha : Nat)) ∧ w'.cell? ⟨db, 0, none⟩ = some (.slice a2 B.length c2) ∧ w'.cell? ⟨db, 1, none⟩ = some (.int .i64 (hb : Nat)) ∧ w'.cell? ⟨w.heap.size, 3, none⟩ = some (.slice (some ⟨b, off, none⟩) 3 cap) ∧ w'.cell? ⟨b, off + 8, none⟩ = some (.int .i64 z.op) ∧ w'.cell? ⟨b, off + 8 + 1, none⟩ = some (.int .i64 z.n) ∧ w'.cell? ⟨b, off + 8 + 2, none⟩ = some (.int .i64 z.m) ∧ w'.cell? ⟨b, off + 8 + 3, none⟩ = some (.slice ax2 z.parts.length cx2)) u ∧ da < u.heap.size ∧ db < u.heap.size ∧ w.heap.size < u.heap.size ∧ b < u.heap.size) := chid (fun _ _ _ _ u hE hL => ⟨⟨(hE.bx (da, [.slice a1 A.length c1, .int .i64 (ha : Nat)]) (hL _ (by simp))).1.cell 0 _ rfl, (hE.bx (da, [.slice a1 A.length c1, .int .i64 (ha : Nat)]) (hL _ (by simp))).1.cell 1 _ rfl, (hE.bx (db, [.slice a2 B.length c2, .int .i64 (hb : Nat)]) (hL _ (by simp))).1.cell 0 _ rfl, (hE.bx (db, [.slice a2 B.length c2, .int .i64 (hb : Nat)]) (hL _ (by simp))).1.cell 1 _ rfl, (hE.bx (w.heap.size, [.int .i64 28, .int .i64 n, .int .i64 m, .slice (some ⟨b, off, none⟩) 3 cap]) (hL _ (by simp))).1.cell 3 _ rfl, hE.cell HB.out.1 HB.out.2.1 HP2.out.1, hE.cell HB.out.1 HB.out.2.1 HP2.out.2.1, hE.cell HB.out.1 HB.out.2.1 HP2.out.2.2.1, hE.cell HB.out.1 HB.out.2.1 HP2.out.2.2.2⟩, ⟨(hE.bx (da, [.slice a1 A.length c1, .int .i64 (ha : Nat)]) (hL _ (by simp))).1.lt, (hE.bx (db, [.slice a2 B.length c2, .int .i64 (hb : Nat)]) (hL _ (by simp))).1.lt, (hE.bx (w.heap.size, [.int .i64 28, .int .i64 n, .int .i64 m, .slice (some ⟨b, off, none⟩) 3 cap]) (hL _ (by simp))).1.lt, Nat.lt_of_lt_of_le HB.out.1 hE.mw.turn.size⟩⟩)
  have hS9 := HSk.out _ _ _ _ _ EE.out (fun _ h => h)
  have d0 := hS9.1.1
  have d1 := hS9.1.2.1
  have e0 := hS9.1.2.2.1
  have e1 := hS9.1.2.2.2.1
  have x3 := hS9.1.2.2.2.2.1
  have p20 := hS9.1.2.2.2.2.2.1
  have p21 := hS9.1.2.2.2.2.2.2.1
  have p22 := hS9.1.2.2.2.2.2.2.2.1
  have p23 := hS9.1.2.2.2.2.2.2.2.2
  have dl := hS9.2.1
  have el := hS9.2.2.1
  have xl := hS9.2.2.2.1
  have pl := hS9.2.2.2.2
  clear hS9
  obtain ⟨C9, hC9⟩ : ∃ C9, Hid (C9 = frkL A (B) (D) 24 23) := ⟨_, chid rfl⟩
  obtain ⟨n9, hn9⟩ : ∃ n9, Hid (n9 = C9.length) := ⟨_, chid rfl⟩
  have HC9 : Hid (cat A (cat (cat (cat [(24, ((B.length + 2 : Nat) : Int))] B) [(23, ((1 + D.length : Nat) : Int))]) D) = C9) := chid (by rw [hC9.out]; unfold frkL; simp only [cat_cat]; (first | done | rfl))
  have HT2 := chid (fun (X : World) (v : Value) (hA' : PcQ X A (.slice a1 A.length c1)) (hB' : PcQ X (B) (.slice a2 B.length c2)) (hD' : PcQ X (D) v) => efork_b A (B) (D) ha hb hd h9 24 23 (.slice a1 A.length c1) (.slice a2 B.length c2) v X hA' hB' hD' (by have := HN.out; have := HLA.out; have := HLB.out; have := HLD.out; omega) (by have := HN.out; have := HHlA.out; have := HHlB.out; have := HHlD.out; omega) (HJB.out) (HJD.out) (by have := hh9.out; have := HHpA.out; have := HHpB.out; have := HHpD.out; omega) C9 hC9.out n9 hn9.out)
  have nr0 : da ≠ w.heap.size + 1 := by have h7 := HDda.out; have h8 := hWs.out; omega
  have nr0' : w.heap.size + 1 ≠ da := fun e => nr0 e.symm
  have nr1 : db ≠ w.heap.size + 1 := by have h7 := HDdb.out; have h8 := hWs.out; omega
  have nr1' : w.heap.size + 1 ≠ db := fun e => nr1 e.symm
  have nr2 : b ≠ w.heap.size + 1 := by have h7 := HB.out.2; omega
  have nr2' : w.heap.size + 1 ≠ b := fun e => nr2 e.symm
  have HWV4 : Hid (w.heap.size + 1 < V2.heap.size) := chid (EE.out.bx (w.heap.size + 1, [.slice none 0 0, .int .i64 0]) (by simp)).1.lt
  go_wp2_with fail
  go_region_held3 (fun w' => w'.cell? ⟨da, 0, none⟩ = some (.slice a1 A.length c1) ∧ w'.cell? ⟨da, 1, none⟩ = some (.int .i64 (ha : Nat)) ∧ w'.cell? ⟨db, 0, none⟩ = some (.slice a2 B.length c2) ∧ w'.cell? ⟨db, 1, none⟩ = some (.int .i64 (hb : Nat)) ∧ w'.cell? ⟨w.heap.size, 3, none⟩ = some (.slice (some ⟨b, off, none⟩) 3 cap) ∧ w'.cell? ⟨b, off + 8, none⟩ = some (.int .i64 z.op) ∧ w'.cell? ⟨b, off + 8 + 1, none⟩ = some (.int .i64 z.n) ∧ w'.cell? ⟨b, off + 8 + 2, none⟩ = some (.int .i64 z.m) ∧ w'.cell? ⟨b, off + 8 + 3, none⟩ = some (.slice ax2 z.parts.length cx2)) (simp [go_sem, *]) (first | (go_at_call 11; refine Calls.mono (HI2.out _ _ ((EE.out.next (bdr _)).core HSx2.out) (EE.out.next (bdr _)).mw.mkr) ?_; intro e u1 g3; obtain ⟨vk5, a4, c4, rfl, E8⟩ := (EE.out.next (bdr _)).call g3; have Hsz1 := chid (msize g3); have E9 := E8; clear E8 g3; replace EE := chid E9; have hS9 := HSk.out _ _ _ _ _ EE.out (by (simp; done)); replace d0 := hS9.1.1; replace d1 := hS9.1.2.1; replace e0 := hS9.1.2.2.1; replace e1 := hS9.1.2.2.2.1; replace x3 := hS9.1.2.2.2.2.1; replace p20 := hS9.1.2.2.2.2.2.1; replace p21 := hS9.1.2.2.2.2.2.2.1; replace p22 := hS9.1.2.2.2.2.2.2.2.1; replace p23 := hS9.1.2.2.2.2.2.2.2.2; replace dl := hS9.2.1; replace el := hS9.2.2.1; replace xl := hS9.2.2.2.1; replace pl := hS9.2.2.2.2; clear hS9; clear E9) | (go_at_call 23; refine Calls.mono (HT2.out _ _ (Env.read (EE.out) (by (simp; done))) (Env.read (EE.out) (by (simp; done))) (Env.read (EE.out) (by (simp; done)))) ?_; rintro e u2 ⟨a5, c5, rfl, b2, p2⟩; have HPl := chid p2; have E9 := Env.made (EE.out) b2 p2; clear b2 p2; replace EE := chid E9; have hS9 := HSk.out _ _ _ _ _ EE.out (by (simp; done)); replace d0 := hS9.1.1; replace d1 := hS9.1.2.1; replace e0 := hS9.1.2.2.1; replace e1 := hS9.1.2.2.2.1; replace x3 := hS9.1.2.2.2.2.1; replace p20 := hS9.1.2.2.2.2.2.1; replace p21 := hS9.1.2.2.2.2.2.2.1; replace p22 := hS9.1.2.2.2.2.2.2.2.1; replace p23 := hS9.1.2.2.2.2.2.2.2.2; replace dl := hS9.2.1; replace el := hS9.2.2.1; replace xl := hS9.2.2.2.1; replace pl := hS9.2.2.2.2; clear hS9; clear E9; have Zz := (EE.out.bx (w.heap.size + 1, [.slice none 0 0, .int .i64 0]) (by simp)).1; have z0 := Zz.cell 0 _ rfl; have z1 := Zz.cell 1 _ rfl; have zf0 := Zz.free 0 (by simp); have zf1 := Zz.free 1 (by simp); have zl := Zz.lt; clear Zz))
  go_wp2_with fail
  refine bodyPost_ret (v := pcV (.slice a5 n9 c5) h9) (by simp [results, Tryd.results11, go_sem, *]) rfl ?_
  rw [HC9.out]
  exact Mw.res HGe.out HBW.out (Nat.le_succ _) (by rw [hWs.out]; omega) EE.out.mw HPl.out (Nat.lt_of_lt_of_le HWV4.out Hsz1.out) _ _
end Go.Proofs.YtigldebdljfnbaaDoor

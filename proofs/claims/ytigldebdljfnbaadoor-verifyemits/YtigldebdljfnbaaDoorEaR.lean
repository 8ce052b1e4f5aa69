/- The document's Action: ladders. -/
import Derived.Test.YtigldebdljfnbaaDoorNbL
namespace Go.Proofs.YtigldebdljfnbaaDoor
open Go.RowKit

theorem one_leaf {wn cn ln : Int} {x : Co} (h : csort ladF wn cn ln x ≠ 0) (h1 : x.op = 1) : x.parts = [] ∧ csort ladF wn cn ln x ≠ 3 := by
  obtain ⟨k, hop, -, -, -, -, hs⟩ := shp_of h
  have hk : k = 1 := by omega
  subst hk
  have hlf := leaf_sort h hop (.inl (by omega))
  rcases hs with ⟨hk, hps⟩ | ⟨hk, -⟩ | ⟨hk, -⟩ | ⟨hk, -⟩ | ⟨hk, -⟩ | ⟨hk, -⟩ | ⟨hk, -⟩ | ⟨hk, -⟩ | ⟨hk, -⟩
  · refine ⟨hps, ?_⟩
    rcases hlf hps with ⟨h, -⟩ | ⟨-, h⟩ <;> omega
  all_goals omega
theorem drop_at' {α : Type} {l : List α} {i : Nat} {x : α} (h : l[i]? = some x) : l.drop i = x :: l.drop (i + 1) := by
  obtain ⟨h1, h2⟩ := List.getElem?_eq_some_iff.1 h
  rw [List.drop_eq_getElem_cons h1, h2]
set_option maxHeartbeats 8000000 in
set_option maxRecDepth 20000 in
theorem act_ladder (wn cn : Int) (nl : Nat) (hnl : nl ≤ 1000000) (n m : Int) (P : List Co) (q : Nat) (hq : P.length = 2 * q + 2) (hp : ∀ x, x ∈ P → csort ladF wn cn nl x ≠ 0)
    (hv : ∀ x, P[0]? = some x → ValD x ∧ (csort ladF wn cn nl x = 1 ∨ csort ladF wn cn nl x = 2))
    (ha : ∀ j x, P[j]? = some x → 1 ≤ j → j % 2 = 0 ∨ j + 1 = P.length → ActD x ∧ csort ladF wn cn nl x = 3)
    (hr : ∀ j x, P[j]? = some x → j % 2 = 1 → j + 1 < P.length → x.op = 1) : ActD ⟨32, n, m, P⟩ := by
  intro v mb K vk w hs h hC hK
  have hcn : cnodes ⟨32, n, m, P⟩ = 1 + cnodesL P := cnodes_eq _
  rw [hcn] at hC hK
  obtain ⟨b, off, cap, rfl, k1, k2, hbl, hbb, hx⟩ := hs.parts.open (by show 0 < P.length; omega)
  have hmb := h.box.lt
  obtain ⟨x, r, hPe⟩ : ∃ a r, P = a :: r := by
    cases P with
    | nil => simp at hq
    | cons a r => exact ⟨a, r, rfl⟩
  have hrl : r.length = 2 * q + 1 := by rw [hPe] at hq; simp at hq; omega
  obtain ⟨ihx, zx⟩ := hv x (by rw [hPe]; rfl)
  have hcl : cnodesL P = cnodes x + cnodesL r := by rw [hPe, cnodesL_cons]
  obtain ⟨N, hN⟩ : ∃ N, Hid (N = P.length) := ⟨_, chid rfl⟩
  have HNq : Hid (N = 2 * q + 2) := chid (hN.out.trans hq)
  have hNle : N ≤ 900000 := by have := length_cnodesL P; have := hN.out; omega
  obtain ⟨Y0, Y1, YB⟩ := two_boxes w 30 55 [.int .i64 32, .int .i64 n, .int .i64 m, .slice (some ⟨b, off, none⟩) P.length cap] [.slice none 0 0, .int .i64 0]
  rw [← hN.out] at Y0 Y1 YB
  obtain ⟨ax0, cx0, sx0, y00, y01, y02, y03⟩ := epart_at hx hbl YB (i := 0) (x := x) (by show P[0]? = some x; rw [hPe]; rfl)
  rw [show off + 0 * 4 = off by omega] at y00 y01 y02 y03
  have HP0 := chid (And.intro y00 (And.intro y01 (And.intro y02 y03)))
  have HSx0 := chid sx0
  have HX := chid (fun (i : Nat) (y : Co) (hi : P[i]? = some y) => epart_at hx hbl YB (i := i) (x := y) hi)
  have yl := Nat.lt_of_lt_of_le hbl YB.size
  have HB := chid (And.intro yl (And.intro hbb hmb))
  have HGe : Hid (∀ i, i ∈ mft mb vk → i < w.heap.size) := chid (fun i hi => (h.ge i hi).2)
  have HBW := chid YB
  have hWs : Hid (((w.alloc (.cells #[.int .i64 32, .int .i64 n, .int .i64 m, .slice (some ⟨b, off, none⟩) N cap] 30)).alloc (.cells #[.slice none 0 0, .int .i64 0] 55)).heap.size = w.heap.size + 2) := by show _ = _; simp
  have EE := chid (Env.start h YB Y0 Y1)
  obtain ⟨A, K1, hA⟩ : ∃ A9 K9, Hid (codF x K = (A9, K9)) := ⟨_, _, chid rfl⟩
  have HLA : Hid (A.length ≤ 6 * cnodes x ∧ K1.length ≤ K.length + 2 * cnodes x) := chid (by have h9 := cod_lb x K; rw [hA.out] at h9; exact h9)
  have HJA : Hid (JB A) := chid (by have h9 := cod_jb (wn := wn) (cn := cn) (t := x) (by omega) hnl (by omega) K; rw [hA.out] at h9; exact h9)
  have HHpA := chid (hgt_pos x zx)
  have HHlA := chid (hgt_le x)
  obtain ⟨ha0, hha0⟩ : ∃ ha, Hid (ha = hgtF x) := ⟨_, chid rfl⟩
  rw [← hha0.out] at HHpA HHlA
  have HI0 := chid (fun (vk' : Value) (u : World) (hs' : CSP (fun b => b < mb) u x (.slice ax0 x.parts.length cx0)) (hk : Mkr u mb K vk') => ihx (.slice ax0 x.parts.length cx0) mb K vk' u hs' hk (by omega) (by omega))
  simp only [hA.out, ← hha0.out] at HI0
  have HPc := chid (fun (y : Co) (hy : y ∈ P) => (by have h9 := cnodesL_mem hy; omega : 8 * cnodes y ≤ 800000))
  have HAc := chid ha
  have HRu := chid hr
  have HPp := chid hp
  obtain ⟨Hh, hHh⟩ : ∃ Hh, Hid (Hh = hgtF ⟨32, n, m, P⟩) := ⟨_, chid rfl⟩
  have HT0 : Hid (max ha0 (hR r) = Hh) := chid (by
    rw [hHh.out, hgt_many (t := ⟨32, n, m, P⟩) (by show P ≠ []; rw [hPe]; simp) (by show (32 : Int) ≠ 29; decide)]
    show max ha0 (hR r) = hL 32 0 (hP P)
    rw [hPe]
    show max ha0 (hR r) = max (benF 32 0 x.op + hgtF x) (hL 32 1 (hP r))
    rw [ben_first, ← hha0.out, ← hR_eq q r 1 (by omega) hrl (fun j y hj => ⟨fun h1 h2 => ?_, fun h1 => ?_⟩)]
    · have := HHpA.out
      omega
    · have hj' : P[j + 1]? = some y := by rw [hPe]; exact hj
      have ho := hr (j + 1) y hj' (by omega) (by rw [hPe]; simp only [List.length_cons]; omega)
      have hl := one_leaf (hp y (List.mem_of_getElem? hj')) ho
      exact ⟨ho, hgt_leaf hl.1 (by omega)⟩
    · have hj' : P[j + 1]? = some y := by rw [hPe]; exact hj
      have hs3 := (ha (j + 1) y hj' (by omega) (by rw [hPe]; simp only [List.length_cons]; omega)).2
      intro ho
      exact (one_leaf (hp y (List.mem_of_getElem? hj')) ho).2 hs3)
  have HHm : Hid (Hh ≤ 300000) := chid (by have h9 := hgt_le ⟨32, n, m, P⟩; rw [hcn] at h9; rw [hHh.out]; omega)
  obtain ⟨T, KT, hT⟩ : ∃ T KT, Hid (cat A (rungM (rgM r) K1).1 = T ∧ (rungM (rgM r) K1).2 = KT) := ⟨_, _, chid ⟨rfl, rfl⟩⟩
  have HE : Hid (codF ⟨32, n, m, P⟩ K = (T, KT)) := chid (by
    rw [codF_eq]
    unfold codO
    simp only [show ¬ ((32 : Int) = 1 ∨ (32 : Int) = 2) by decide, show ¬ (32 : Int) = 7 by decide, show ¬ (32 : Int) = 13 by decide, show ¬ (32 : Int) = 25 by decide, show ¬ (32 : Int) = 26 by decide, show ¬ (32 : Int) = 28 by decide, show ¬ (32 : Int) = 27 by decide, if_false, if_true]
    rw [zip_cod, hPe]
    show thenM (codF x) (rungM (rgM r)) K = _
    unfold thenM
    simp only [hA.out, hT.out.1, hT.out.2])
  rw [HE.out, ← hHh.out]
  rw [hcl] at hC hK
  have HN := chid (And.intro hC hK)
  have HDr : Hid (P.drop 1 = r) := chid (by rw [hPe]; rfl)
  have hw1 : IntKind.i64.wrap ((N : Int) - 1) = ((2 * q + 1 : Nat) : Int) := by have := HNq.out; rw [IntKind.wrap_i64]; omega
  have hlen : (N : Int) - 1 = ((2 * q + 1 : Nat) : Int) := by have := HNq.out; omega
  have hN0 : (0 : Int) < (N : Int) := by have := HNq.out; omega
  rw [← hN.out]
  clear hs h hC hK hcn hmb Y0 Y1 YB sx0 hx hbl hbb k1 k2 ihx hPe hrl hcl ha hr hp hv hq
  go_enter Tryd.func12, Tryd.ntmps12
  go_wp2_with fail
  generalize hW : ((w.alloc _).alloc _) = W at *
  clear hW
  refine Calls.mono (HI0.out vk W HSx0.out EE.out.mw.mkr) ?_
  intro e w1 g1
  obtain ⟨vk1, a1, c1, rfl, E1⟩ := EE.out.call g1
  have HWV : Hid (W.heap.size ≤ w1.heap.size) := chid E1.mw.turn.size
  replace EE := chid E1
  have x0 := (E1.bx (w.heap.size, [.int .i64 32, .int .i64 n, .int .i64 m, .slice (some ⟨b, off, none⟩) N cap]) (by simp)).1.cell 0 _ rfl
  have x1 := (E1.bx (w.heap.size, [.int .i64 32, .int .i64 n, .int .i64 m, .slice (some ⟨b, off, none⟩) N cap]) (by simp)).1.cell 1 _ rfl
  have x2 := (E1.bx (w.heap.size, [.int .i64 32, .int .i64 n, .int .i64 m, .slice (some ⟨b, off, none⟩) N cap]) (by simp)).1.cell 2 _ rfl
  have x3 := (E1.bx (w.heap.size, [.int .i64 32, .int .i64 n, .int .i64 m, .slice (some ⟨b, off, none⟩) N cap]) (by simp)).1.cell 3 _ rfl
  have xl := (E1.bx (w.heap.size, [.int .i64 32, .int .i64 n, .int .i64 m, .slice (some ⟨b, off, none⟩) N cap]) (by simp)).1.lt
  clear g1 E1 y00 y01 y02 y03 yl
  go_wp2_with fail
  clear x0 x1 x2 x3 xl
  have E2 := EE.out.alloc (l := [.slice a1 A.length c1, .int .i64 (ha0 : Nat)]) (t := 55)
  obtain ⟨da, hda⟩ : ∃ da, da = w1.heap.size := ⟨_, rfl⟩
  rw [← hda] at E2 HWV ⊢
  generalize hV : (w1.alloc _) = V at *
  clear hV hda
  have HDda := chid HWV.out
  replace HWV := chid E2.mw.turn.size
  replace EE := chid E2
  have HLt := chid E2.lts
  clear E2
  have HOd := HDda
  have HNe : Hid (∀ p, p ∈ ([(w.heap.size, [.int .i64 32, .int .i64 n, .int .i64 m, .slice (some ⟨b, off, none⟩) N cap]), (w.heap.size + 1, [.slice none 0 0, .int .i64 0])] : List (Nat × List Value)) → p.1 ≠ da) := chid (fun p hp => by
    have h7 := HOd.out
    have h8 := hWs.out
    simp only [List.mem_cons, List.not_mem_nil, or_false] at hp
    rcases hp with rfl | rfl
    · show w.heap.size ≠ da; omega
    · show w.heap.size + 1 ≠ da; omega)
  go_loopw [7] (fun i wr => ∃ (k j : Nat) (D : List Ins) (L : List Int) (vd : Value) (h : Nat) (a : Option Addr) (c : Nat), i = .int .i64 (k : Nat) ∧ Hid (k = 2 * j + 1) ∧ Hid (j ≤ q) ∧ Hid (Env mb (mft mb vk) W ((da, [.slice a D.length c, .int .i64 (h : Nat)]) :: [(w.heap.size, [.int .i64 32, .int .i64 n, .int .i64 m, .slice (some ⟨b, off, none⟩) N cap]), (w.heap.size + 1, [.slice none 0 0, .int .i64 0])]) [(D, .slice a D.length c)] L vd wr) ∧ Hid (cat D (rungM (rgM (P.drop k)) L).1 = T ∧ (rungM (rgM (P.drop k)) L).2 = KT) ∧ Hid (D.length + 8 * cnodesL (P.drop k) + 8 ≤ 900000 ∧ L.length + 2 * cnodesL (P.drop k) ≤ 900000) ∧ Hid (max h (hR (P.drop k)) = Hh) ∧ Hid (1 ≤ h)) (fun i _ => match i with | .int _ z => ((N : Int) - z).toNat | _ => 0)
  case atStart => exact ⟨1, 0, A, K1, vk1, ha0, a1, c1, rfl, chid rfl, chid (Nat.zero_le _), EE, by rw [HDr.out]; exact hT, by rw [HDr.out]; exact chid (by have := HN.out; have := HLA.out; omega), by rw [HDr.out]; exact HT0, HHpA⟩
  case round =>
    obtain ⟨k, j, D, L, vd, h, a, c, rfl, Hk, Hj, HEn, HTt, HSz, HHt, HH1⟩ := hrel
    clear EE HLt HWV
    have EE := HEn
    by_cases hlt : k < 2 * q + 1
    · have hlt' : (k : Int) < 2 * (q : Int) + 1 := by omega
      have hkN : (k : Int) < (N : Int) := by have := HNq.out; omega
      have hkN1 : (k : Int) + 1 < (N : Int) := by have := HNq.out; omega
      have hw2 : IntKind.i64.wrap ((k : Int) + 1) = (k : Int) + 1 := by rw [IntKind.wrap_i64]; omega
      have hw3 : IntKind.i64.wrap ((k : Int) + 2) = (k : Int) + 2 := by rw [IntKind.wrap_i64]; omega
      have ht1 : ((k : Int) + 1).toNat = k + 1 := by omega
      obtain ⟨x1, hx1⟩ : ∃ x1, P[k]? = some x1 := ⟨_, List.getElem?_eq_getElem (by have := HNq.out; have := hN.out; omega)⟩
      obtain ⟨x2, hx2⟩ : ∃ x2, P[k + 1]? = some x2 := ⟨_, List.getElem?_eq_getElem (by have := HNq.out; have := hN.out; omega)⟩
      obtain ⟨b1, e1, sb1, u0, u1, u2, u3⟩ := HX.out k x1 hx1
      obtain ⟨b2, e2, sb2, v0, v1, v2, v3⟩ := HX.out (k + 1) x2 hx2
      have HPa := chid u1
      have HPb := chid (And.intro v0 (And.intro v1 (And.intro v2 v3)))
      have HSb := chid sb2
      obtain ⟨ihb, zb3⟩ := HAc.out (k + 1) x2 hx2 (by omega) (.inl (by have := Hk.out; omega))
      have HD2 : Hid (P.drop k = x1 :: x2 :: P.drop (k + 2)) := chid (by rw [drop_at' hx1, drop_at' hx2])
      obtain ⟨L1, hL1⟩ : ∃ L1, Hid (L1 = numK L x1.n) := ⟨_, chid rfl⟩
      obtain ⟨ix, hix⟩ : ∃ ix, Hid (ix = L.idxOf x1.n) := ⟨_, chid rfl⟩
      obtain ⟨G, L2, hG⟩ : ∃ G L2, Hid (codF x2 L1 = (G, L2)) := ⟨_, _, chid rfl⟩
      have HSz2 : Hid (G.length ≤ 6 * cnodes x2 ∧ L2.length ≤ L1.length + 2 * cnodes x2 ∧ L1.length ≤ L.length + 1 ∧ cnodesL (P.drop k) = cnodes x1 + (cnodes x2 + cnodesL (P.drop (k + 2))) ∧ 1 ≤ cnodes x1 ∧ 1 ≤ cnodes x2) := chid (by
        have h9 := cod_lb x2 L1
        rw [hG.out] at h9
        exact ⟨h9.1, h9.2, by rw [hL1.out]; exact numK_len L x1.n, by rw [HD2.out, cnodesL_cons, cnodesL_cons], cnodes_pos x1, cnodes_pos x2⟩)
      have HJG : Hid (JB G) := chid (by
        have h9 := cod_jb (wn := wn) (cn := cn) (t := x2) (by omega) hnl (HPc.out x2 (List.mem_of_getElem? hx2)) L1
        rw [hG.out] at h9
        exact h9)
      obtain ⟨hg, hhg⟩ : ∃ hg, Hid (hg = hgtF x2) := ⟨_, chid rfl⟩
      have HAx := chid (fun (vk' : Value) (u : World) (hs' : CSP (fun b => b < mb) u x2 (.slice b2 x2.parts.length e2)) (hk : Mkr u mb L1 vk') => ihb (.slice b2 x2.parts.length e2) mb L1 vk' u hs' hk (HPc.out x2 (List.mem_of_getElem? hx2)) (by have := HSz.out; have := HSz2.out; omega))
      simp only [hG.out, ← hhg.out] at HAx
      have HHb : Hid (max h (max 3 (max hg (hR (P.drop (k + 2))))) = Hh) := chid (by
        have h9 := HHt.out
        rw [HD2.out] at h9
        rw [hhg.out]
        exact h9)
      have HTn : Hid (cat (cat (cat (cat (cat (cat (cat D [(32, 0)]) [(1, ((ix : Nat) : Int))]) [(16, 0)]) [(24, (2 : Int) + (G.length : Int))]) [(33, 0)]) G) (rungM (rgM (P.drop (k + 2))) L2).1 = T ∧ (rungM (rgM (P.drop (k + 2))) L2).2 = KT) := chid (by
        have h9 := erung_step x1 x2 (P.drop (k + 2)) D L L2 G (by rw [← hL1.out]; exact hG.out)
        have h8 := HTt.out
        rw [HD2.out] at h8
        rw [← hix.out] at h9
        exact ⟨h9.1.symm.trans h8.1, h9.2.symm.trans h8.2⟩)
      clear sb1 sb2 u0 u1 u2 u3 v0 v1 v2 v3 ihb HTt HHt
      go_wp2_with fail
      obtain ⟨D1, hD1⟩ : ∃ CC9, Hid (CC9 = cat D [(32, 0)]) := ⟨_, chid rfl⟩
      obtain ⟨m1, hm1⟩ : ∃ nn9, Hid (nn9 = D1.length) := ⟨_, chid rfl⟩
      obtain ⟨g1, hg1⟩ : ∃ gg9, Hid (gg9 = max h (1 + 1)) := ⟨_, chid rfl⟩
      have HlD1 : Hid (D1.length = D.length + 1) := chid (by rw [hD1.out, cat_len]; rfl)
      apply viaQ2 (fun _ _ aQ cQ w' => ∃ vk', Env mb (mft mb vk) W ((da, [.slice aQ m1 cQ, .int .i64 (g1 : Nat)]) :: [(w.heap.size, [.int .i64 32, .int .i64 n, .int .i64 m, .slice (some ⟨b, off, none⟩) N cap]), (w.heap.size + 1, [.slice none 0 0, .int .i64 0])]) ((D1, .slice aQ m1 cQ) :: []) L vk' w')
      case hreg =>
        have ED := chid (EE.out.next (bdr wr))
        refine wp_region_held_drew (S := (fun _ => True)) (by kernel_rfl) (trivial) (fun hS0 => ?_)
        refine wpAnyH_ready (rs := [0, 1]) (by kernel_rfl) (by simp) (AllReadyH.cons (i := 0) rfl (fun K hK => ?_) (AllReadyH.cons (i := 1) rfl (fun K hK => ?_) AllReadyH.nil))
        · skip
          have bo := (ED.out.bx (da, [.slice a D.length c, .int .i64 (h : Nat)]) (by simp)).1
          have d0 := bo.cell 0 _ rfl
          have d1 := bo.cell 1 _ rfl
          have dl := bo.lt
          clear bo
          rw [if_pos (show Region.wanted _ _ = true from rfl)]
          go_simp
          refine hK.out _ _ hS0 (fun _ => ?_)
          clear hK d0 d1 dl
          refine wpAnyH_ready (rs := [1]) (by kernel_rfl) (by simp) (AllReadyH.cons (i := 1) rfl (fun K hK => ?_) AllReadyH.nil)
          refine step_e rfl (eone_e ED.out 32 (0) 1) (by first | rfl | go_simp) ?_
          intro u w1 hu
          obtain ⟨vkP, aP, cP, rfl, E1⟩ := hu
          refine hK.out _ _ trivial (fun _ => ?_)
          clear hK
          refine wpAnyH_ready (rs := [2]) (by kernel_rfl) (by simp) (AllReadyH.cons (i := 2) rfl (fun K hK => ?_) AllReadyH.nil)
          refine step_e rfl (ethen_e E1 D [(32, 0)] h 1 1 (.slice a D.length c) _ (by simp) List.mem_cons_self (by have := HSz.out; have := HSz2.out; have := HlD1.out; simp only [List.length_singleton]; omega) (by have := HHm.out; have := HHb.out; have := hg1.out; omega) (JB.one (fun h => by cases h)) D1 hD1.out m1 hm1.out g1 hg1.out) (by first | rfl | go_simp) ?_
          intro u w2 hu
          obtain ⟨vkQ, aQ, cQ, rfl, E2⟩ := hu
          have E3 := chid (E2.put2 (x := .slice aQ m1 cQ) (y := .int .i64 (g1 : Nat)) (HNe.out) (HOd.out))
          have bo := (E2.bx (da, [.slice a D.length c, .int .i64 (h : Nat)]) (by simp)).1
          have z0 := bo.cell 0 _ rfl
          have z1 := bo.cell 1 _ rfl
          have zf0 := bo.free 0 (by simp)
          have zf1 := bo.free 1 (by simp)
          have zl := bo.lt
          clear bo
          refine hK.out _ _ trivial (fun _ => ?_)
          clear hK
          refine wpAnyH_ready (rs := [3]) (by kernel_rfl) (by simp) (AllReadyH.cons (i := 3) rfl (fun K hK => ?_) AllReadyH.nil)
          rw [if_pos (show Region.wanted _ _ = true from rfl)]
          go_simp
          refine hK.out _ _ trivial (fun _ => ?_)
          clear hK
          refine wpAnyH_done (by kernel_rfl) ?_ _
          exact ⟨aP, cP, aQ, cQ, rfl, _, E3.out.sub (fun _ h => h) (fun q hq => (List.mem_cons.1 hq).elim (fun e => e ▸ List.mem_cons_self) (fun h => List.mem_cons_of_mem _ (List.mem_cons_of_mem _ (List.mem_cons_of_mem _ h))))⟩
        · skip
          refine step_e rfl (eone_e ED.out 32 (0) 1) (by first | rfl | go_simp) ?_
          intro u w1 hu
          obtain ⟨vkP, aP, cP, rfl, E1⟩ := hu
          refine hK.out _ _ trivial (fun _ => ?_)
          clear hK
          refine wpAnyH_ready (rs := [0]) (by kernel_rfl) (by simp) (AllReadyH.cons (i := 0) rfl (fun K hK => ?_) AllReadyH.nil)
          have bo := (E1.bx (da, [.slice a D.length c, .int .i64 (h : Nat)]) (by simp)).1
          have d0 := bo.cell 0 _ rfl
          have d1 := bo.cell 1 _ rfl
          have dl := bo.lt
          clear bo
          rw [if_pos (show Region.wanted _ _ = true from rfl)]
          go_simp
          refine hK.out _ _ trivial (fun _ => ?_)
          clear hK d0 d1 dl
          refine wpAnyH_ready (rs := [2]) (by kernel_rfl) (by simp) (AllReadyH.cons (i := 2) rfl (fun K hK => ?_) AllReadyH.nil)
          refine step_e rfl (ethen_e E1 D [(32, 0)] h 1 1 (.slice a D.length c) _ (by simp) List.mem_cons_self (by have := HSz.out; have := HSz2.out; have := HlD1.out; simp only [List.length_singleton]; omega) (by have := HHm.out; have := HHb.out; have := hg1.out; omega) (JB.one (fun h => by cases h)) D1 hD1.out m1 hm1.out g1 hg1.out) (by first | rfl | go_simp) ?_
          intro u w2 hu
          obtain ⟨vkQ, aQ, cQ, rfl, E2⟩ := hu
          have E3 := chid (E2.put2 (x := .slice aQ m1 cQ) (y := .int .i64 (g1 : Nat)) (HNe.out) (HOd.out))
          have bo := (E2.bx (da, [.slice a D.length c, .int .i64 (h : Nat)]) (by simp)).1
          have z0 := bo.cell 0 _ rfl
          have z1 := bo.cell 1 _ rfl
          have zf0 := bo.free 0 (by simp)
          have zf1 := bo.free 1 (by simp)
          have zl := bo.lt
          clear bo
          refine hK.out _ _ trivial (fun _ => ?_)
          clear hK
          refine wpAnyH_ready (rs := [3]) (by kernel_rfl) (by simp) (AllReadyH.cons (i := 3) rfl (fun K hK => ?_) AllReadyH.nil)
          rw [if_pos (show Region.wanted _ _ = true from rfl)]
          go_simp
          refine hK.out _ _ trivial (fun _ => ?_)
          clear hK
          refine wpAnyH_done (by kernel_rfl) ?_ _
          exact ⟨aP, cP, aQ, cQ, rfl, _, E3.out.sub (fun _ h => h) (fun q hq => (List.mem_cons.1 hq).elim (fun e => e ▸ List.mem_cons_self) (fun h => List.mem_cons_of_mem _ (List.mem_cons_of_mem _ (List.mem_cons_of_mem _ h))))⟩
      case hrest =>
      intro _ _ a2 c2 w2 hG
      obtain ⟨vk2, E9⟩ := hG
      replace EE := chid E9
      clear E9
      go_wp2_with fail
      obtain ⟨D2, hD2⟩ : ∃ CC9, Hid (CC9 = cat D1 [(1, ((ix : Nat) : Int))]) := ⟨_, chid rfl⟩
      obtain ⟨m2, hm2⟩ : ∃ nn9, Hid (nn9 = D2.length) := ⟨_, chid rfl⟩
      obtain ⟨g2, hg2⟩ : ∃ gg9, Hid (gg9 = max g1 (1 + 2)) := ⟨_, chid rfl⟩
      have HlD2 : Hid (D2.length = D1.length + 1) := chid (by rw [hD2.out, cat_len]; rfl)
      have HSk : Hid (∀ L' PS' K' vk' u, Env mb (mft mb vk) W L' PS' K' vk' u → (∀ p, p ∈ [(w.heap.size, [.int .i64 32, .int .i64 n, .int .i64 m, .slice (some ⟨b, off, none⟩) N cap]), (w.heap.size + 1, [.slice none 0 0, .int .i64 0])] → p ∈ L') → (fun w' => w'.cell? ⟨w.heap.size, 3, none⟩ = some (.slice (some ⟨b, off, none⟩) N cap) ∧ w'.cell? ⟨b, off + k * 4 + 1, none⟩ = some (.int .i64 x1.n)) u ∧ w.heap.size < u.heap.size ∧ b < u.heap.size) := chid (fun _ _ _ _ u hE hL => ⟨⟨(hE.bx (w.heap.size, [.int .i64 32, .int .i64 n, .int .i64 m, .slice (some ⟨b, off, none⟩) N cap]) (hL _ (by simp))).1.cell 3 _ rfl, hE.cell HB.out.1 HB.out.2.1 HPa.out⟩, ⟨(hE.bx (w.heap.size, [.int .i64 32, .int .i64 n, .int .i64 m, .slice (some ⟨b, off, none⟩) N cap]) (hL _ (by simp))).1.lt, Nat.lt_of_lt_of_le HB.out.1 hE.mw.turn.size⟩⟩)
      have hS9 := HSk.out _ _ _ _ _ EE.out (by simp)
      have x3 := hS9.1.1
      have p1 := hS9.1.2
      have xl := hS9.2.1
      have pl := hS9.2.2
      clear hS9
      apply viaQ2 (fun _ _ aQ cQ w' => ∃ vk', Env mb (mft mb vk) W ((da, [.slice aQ m2 cQ, .int .i64 (g2 : Nat)]) :: [(w.heap.size, [.int .i64 32, .int .i64 n, .int .i64 m, .slice (some ⟨b, off, none⟩) N cap]), (w.heap.size + 1, [.slice none 0 0, .int .i64 0])]) ((D2, .slice aQ m2 cQ) :: []) L1 vk' w')
      case hreg =>
        have ED := chid (EE.out.next (bdr w2))
        refine wp_region_held_drew (S := (fun w' => w'.cell? ⟨w.heap.size, 3, none⟩ = some (.slice (some ⟨b, off, none⟩) N cap) ∧ w'.cell? ⟨b, off + k * 4 + 1, none⟩ = some (.int .i64 x1.n))) (by kernel_rfl) ((HSk.out _ _ _ _ _ ED.out (by simp)).1) (fun hS0 => ?_)
        refine wpAnyH_take (i := 1) (v := .pointer (some ⟨mb, 0, none⟩)) rfl (by kernel_rfl) (by kernel_rfl) (by kernel_rfl) (fun _ _ _ h => h) (Or.inl ⟨rfl, fun w' hS' => ?_⟩) hS0 ?_
        · obtain ⟨q0, q1⟩ := hS'
          go_simp
        refine wpAnyH_take (i := 2) (v := .pointer (some ⟨w.heap.size, 3, none⟩)) rfl (by kernel_rfl) (by kernel_rfl) (by kernel_rfl) (fun _ _ _ h => h) (Or.inl ⟨rfl, fun w' hS' => ?_⟩) hS0 ?_
        · obtain ⟨q0, q1⟩ := hS'
          go_simp
        refine wpAnyH_take (i := 3) (v := .slice (some ⟨b, off, none⟩) N cap) rfl (by kernel_rfl) (by kernel_rfl) (by kernel_rfl) (fun _ _ _ h => h) (Or.inl ⟨rfl, fun w' hS' => ?_⟩) hS0 ?_
        · obtain ⟨q0, q1⟩ := hS'
          go_simp
        refine wpAnyH_take (i := 4) (v := .int .i64 (k : Nat)) rfl (by kernel_rfl) (by kernel_rfl) (by kernel_rfl) (fun _ _ _ h => h) (Or.inl ⟨rfl, fun w' hS' => ?_⟩) hS0 ?_
        · obtain ⟨q0, q1⟩ := hS'
          go_simp
        refine wpAnyH_take (i := 5) (v := .pointer (some ⟨b, off + k * 4, none⟩)) rfl (by kernel_rfl) (by kernel_rfl) (by kernel_rfl) (fun _ _ _ h => h) (Or.inl ⟨rfl, fun w' hS' => ?_⟩) hS0 ?_
        · obtain ⟨q0, q1⟩ := hS'
          go_simp
        refine wpAnyH_take (i := 6) (v := .pointer (some ⟨b, off + k * 4 + 1, none⟩)) rfl (by kernel_rfl) (by kernel_rfl) (by kernel_rfl) (fun _ _ _ h => h) (Or.inl ⟨rfl, fun w' hS' => ?_⟩) hS0 ?_
        · obtain ⟨q0, q1⟩ := hS'
          go_simp
        refine wpAnyH_take (i := 7) (v := .int .i64 x1.n) rfl (by kernel_rfl) (by kernel_rfl) (by kernel_rfl) (fun _ _ _ h => h) (Or.inl ⟨rfl, fun w' hS' => ?_⟩) hS0 ?_
        · obtain ⟨q0, q1⟩ := hS'
          go_simp
        refine wpAnyH_ready (rs := [0, 8]) (by kernel_rfl) (by simp) (AllReadyH.cons (i := 0) rfl (fun K hK => ?_) (AllReadyH.cons (i := 8) rfl (fun K hK => ?_) AllReadyH.nil))
        · skip
          have bo := (ED.out.bx (da, [.slice a2 m1 c2, .int .i64 (g1 : Nat)]) (by simp)).1
          have d0 := bo.cell 0 _ rfl
          have d1 := bo.cell 1 _ rfl
          have dl := bo.lt
          clear bo
          rw [if_pos (show Region.wanted _ _ = true from rfl)]
          go_simp
          refine hK.out _ _ hS0 (fun _ => ?_)
          clear hK d0 d1 dl
          refine wpAnyH_ready (rs := [8]) (by kernel_rfl) (by simp) (AllReadyH.cons (i := 8) rfl (fun K hK => ?_) AllReadyH.nil)
          refine step_e rfl (enum_e ED.out x1.n (by have := HSz.out; have := HSz2.out; omega) L1 hL1.out ix hix.out) (by first | rfl | go_simp) ?_
          intro u w1 hu
          obtain ⟨vkP, aP, cP, rfl, E1⟩ := hu
          have hS1 := (HSk.out _ _ _ _ _ E1 (by simp)).1
          refine hK.out _ _ hS1 (fun _ => ?_)
          clear hK
          refine wpAnyH_ready (rs := [9]) (by kernel_rfl) (by simp) (AllReadyH.cons (i := 9) rfl (fun K hK => ?_) AllReadyH.nil)
          refine step_e rfl (ethen_e E1 D1 [(1, ((ix : Nat) : Int))] g1 1 2 (.slice a2 m1 c2) _ (by simp) List.mem_cons_self (by have := HSz.out; have := HSz2.out; have := HlD1.out; have := HlD2.out; simp only [List.length_singleton]; omega) (by have := HHm.out; have := HHb.out; have := hg1.out; have := hg2.out; omega) (JB.one (fun h => by cases h)) D2 hD2.out m2 hm2.out g2 hg2.out) (by first | rfl | go_simp) ?_
          intro u w2 hu
          obtain ⟨vkQ, aQ, cQ, rfl, E2⟩ := hu
          have E3 := chid (E2.put2 (x := .slice aQ m2 cQ) (y := .int .i64 (g2 : Nat)) (HNe.out) (HOd.out))
          have bo := (E2.bx (da, [.slice a2 m1 c2, .int .i64 (g1 : Nat)]) (by simp)).1
          have z0 := bo.cell 0 _ rfl
          have z1 := bo.cell 1 _ rfl
          have zf0 := bo.free 0 (by simp)
          have zf1 := bo.free 1 (by simp)
          have zl := bo.lt
          clear bo
          have hS2 := (HSk.out _ _ _ _ _ E2 (by simp)).1
          have hS3 := chid (HSk.out _ _ _ _ _ E3.out (by simp)).1
          refine hK.out _ _ hS2 (fun _ => ?_)
          clear hK hS2
          refine wpAnyH_ready (rs := [10]) (by kernel_rfl) (by simp) (AllReadyH.cons (i := 10) rfl (fun K hK => ?_) AllReadyH.nil)
          rw [if_pos (show Region.wanted _ _ = true from rfl)]
          go_simp
          refine hK.out _ _ hS3.out (fun _ => ?_)
          clear hK
          refine wpAnyH_done (by kernel_rfl) ?_ _
          exact ⟨aP, cP, aQ, cQ, rfl, _, E3.out.sub (fun _ h => h) (fun q hq => (List.mem_cons.1 hq).elim (fun e => e ▸ List.mem_cons_self) (fun h => List.mem_cons_of_mem _ (List.mem_cons_of_mem _ (List.mem_cons_of_mem _ h))))⟩
        · skip
          refine step_e rfl (enum_e ED.out x1.n (by have := HSz.out; have := HSz2.out; omega) L1 hL1.out ix hix.out) (by first | rfl | go_simp) ?_
          intro u w1 hu
          obtain ⟨vkP, aP, cP, rfl, E1⟩ := hu
          have hS1 := (HSk.out _ _ _ _ _ E1 (by simp)).1
          refine hK.out _ _ hS1 (fun _ => ?_)
          clear hK
          refine wpAnyH_ready (rs := [0]) (by kernel_rfl) (by simp) (AllReadyH.cons (i := 0) rfl (fun K hK => ?_) AllReadyH.nil)
          have bo := (E1.bx (da, [.slice a2 m1 c2, .int .i64 (g1 : Nat)]) (by simp)).1
          have d0 := bo.cell 0 _ rfl
          have d1 := bo.cell 1 _ rfl
          have dl := bo.lt
          clear bo
          rw [if_pos (show Region.wanted _ _ = true from rfl)]
          go_simp
          refine hK.out _ _ hS1 (fun _ => ?_)
          clear hK d0 d1 dl
          refine wpAnyH_ready (rs := [9]) (by kernel_rfl) (by simp) (AllReadyH.cons (i := 9) rfl (fun K hK => ?_) AllReadyH.nil)
          refine step_e rfl (ethen_e E1 D1 [(1, ((ix : Nat) : Int))] g1 1 2 (.slice a2 m1 c2) _ (by simp) List.mem_cons_self (by have := HSz.out; have := HSz2.out; have := HlD1.out; have := HlD2.out; simp only [List.length_singleton]; omega) (by have := HHm.out; have := HHb.out; have := hg1.out; have := hg2.out; omega) (JB.one (fun h => by cases h)) D2 hD2.out m2 hm2.out g2 hg2.out) (by first | rfl | go_simp) ?_
          intro u w2 hu
          obtain ⟨vkQ, aQ, cQ, rfl, E2⟩ := hu
          have E3 := chid (E2.put2 (x := .slice aQ m2 cQ) (y := .int .i64 (g2 : Nat)) (HNe.out) (HOd.out))
          have bo := (E2.bx (da, [.slice a2 m1 c2, .int .i64 (g1 : Nat)]) (by simp)).1
          have z0 := bo.cell 0 _ rfl
          have z1 := bo.cell 1 _ rfl
          have zf0 := bo.free 0 (by simp)
          have zf1 := bo.free 1 (by simp)
          have zl := bo.lt
          clear bo
          have hS2 := (HSk.out _ _ _ _ _ E2 (by simp)).1
          have hS3 := chid (HSk.out _ _ _ _ _ E3.out (by simp)).1
          refine hK.out _ _ hS2 (fun _ => ?_)
          clear hK hS2
          refine wpAnyH_ready (rs := [10]) (by kernel_rfl) (by simp) (AllReadyH.cons (i := 10) rfl (fun K hK => ?_) AllReadyH.nil)
          rw [if_pos (show Region.wanted _ _ = true from rfl)]
          go_simp
          refine hK.out _ _ hS3.out (fun _ => ?_)
          clear hK
          refine wpAnyH_done (by kernel_rfl) ?_ _
          exact ⟨aP, cP, aQ, cQ, rfl, _, E3.out.sub (fun _ h => h) (fun q hq => (List.mem_cons.1 hq).elim (fun e => e ▸ List.mem_cons_self) (fun h => List.mem_cons_of_mem _ (List.mem_cons_of_mem _ (List.mem_cons_of_mem _ h))))⟩
      case hrest =>
      intro _ _ a3 c3 w3 hG
      obtain ⟨vk3, E9⟩ := hG
      clear HSk x3 p1 xl pl
      replace EE := chid E9
      clear E9
      go_wp2_with fail
      obtain ⟨D3, hD3⟩ : ∃ CC9, Hid (CC9 = cat D2 [(16, 0)]) := ⟨_, chid rfl⟩
      obtain ⟨m3, hm3⟩ : ∃ nn9, Hid (nn9 = D3.length) := ⟨_, chid rfl⟩
      obtain ⟨g3, hg3⟩ : ∃ gg9, Hid (gg9 = max g2 (0 + 2)) := ⟨_, chid rfl⟩
      have HlD3 : Hid (D3.length = D2.length + 1) := chid (by rw [hD3.out, cat_len]; rfl)
      apply viaQ2 (fun _ _ aQ cQ w' => ∃ vk', Env mb (mft mb vk) W ((da, [.slice aQ m3 cQ, .int .i64 (g3 : Nat)]) :: [(w.heap.size, [.int .i64 32, .int .i64 n, .int .i64 m, .slice (some ⟨b, off, none⟩) N cap]), (w.heap.size + 1, [.slice none 0 0, .int .i64 0])]) ((D3, .slice aQ m3 cQ) :: []) L1 vk' w')
      case hreg =>
        have ED := chid (EE.out.next (bdr w3))
        refine wp_region_held_drew (S := (fun _ => True)) (by kernel_rfl) (trivial) (fun hS0 => ?_)
        refine wpAnyH_ready (rs := [0, 1]) (by kernel_rfl) (by simp) (AllReadyH.cons (i := 0) rfl (fun K hK => ?_) (AllReadyH.cons (i := 1) rfl (fun K hK => ?_) AllReadyH.nil))
        · skip
          have bo := (ED.out.bx (da, [.slice a3 m2 c3, .int .i64 (g2 : Nat)]) (by simp)).1
          have d0 := bo.cell 0 _ rfl
          have d1 := bo.cell 1 _ rfl
          have dl := bo.lt
          clear bo
          rw [if_pos (show Region.wanted _ _ = true from rfl)]
          go_simp
          refine hK.out _ _ hS0 (fun _ => ?_)
          clear hK d0 d1 dl
          refine wpAnyH_ready (rs := [1]) (by kernel_rfl) (by simp) (AllReadyH.cons (i := 1) rfl (fun K hK => ?_) AllReadyH.nil)
          refine step_e rfl (eone_e ED.out 16 (0) 0) (by first | rfl | go_simp) ?_
          intro u w1 hu
          obtain ⟨vkP, aP, cP, rfl, E1⟩ := hu
          refine hK.out _ _ trivial (fun _ => ?_)
          clear hK
          refine wpAnyH_ready (rs := [2]) (by kernel_rfl) (by simp) (AllReadyH.cons (i := 2) rfl (fun K hK => ?_) AllReadyH.nil)
          refine step_e rfl (ethen_e E1 D2 [(16, 0)] g2 0 2 (.slice a3 m2 c3) _ (by simp) List.mem_cons_self (by have := HSz.out; have := HSz2.out; have := HlD1.out; have := HlD2.out; have := HlD3.out; simp only [List.length_singleton]; omega) (by have := HHm.out; have := HHb.out; have := hg1.out; have := hg2.out; have := hg3.out; omega) (JB.one (fun h => by cases h)) D3 hD3.out m3 hm3.out g3 hg3.out) (by first | rfl | go_simp) ?_
          intro u w2 hu
          obtain ⟨vkQ, aQ, cQ, rfl, E2⟩ := hu
          have E3 := chid (E2.put2 (x := .slice aQ m3 cQ) (y := .int .i64 (g3 : Nat)) (HNe.out) (HOd.out))
          have bo := (E2.bx (da, [.slice a3 m2 c3, .int .i64 (g2 : Nat)]) (by simp)).1
          have z0 := bo.cell 0 _ rfl
          have z1 := bo.cell 1 _ rfl
          have zf0 := bo.free 0 (by simp)
          have zf1 := bo.free 1 (by simp)
          have zl := bo.lt
          clear bo
          refine hK.out _ _ trivial (fun _ => ?_)
          clear hK
          refine wpAnyH_ready (rs := [3]) (by kernel_rfl) (by simp) (AllReadyH.cons (i := 3) rfl (fun K hK => ?_) AllReadyH.nil)
          rw [if_pos (show Region.wanted _ _ = true from rfl)]
          go_simp
          refine hK.out _ _ trivial (fun _ => ?_)
          clear hK
          refine wpAnyH_done (by kernel_rfl) ?_ _
          exact ⟨aP, cP, aQ, cQ, rfl, _, E3.out.sub (fun _ h => h) (fun q hq => (List.mem_cons.1 hq).elim (fun e => e ▸ List.mem_cons_self) (fun h => List.mem_cons_of_mem _ (List.mem_cons_of_mem _ (List.mem_cons_of_mem _ h))))⟩
        · skip
          refine step_e rfl (eone_e ED.out 16 (0) 0) (by first | rfl | go_simp) ?_
          intro u w1 hu
          obtain ⟨vkP, aP, cP, rfl, E1⟩ := hu
          refine hK.out _ _ trivial (fun _ => ?_)
          clear hK
          refine wpAnyH_ready (rs := [0]) (by kernel_rfl) (by simp) (AllReadyH.cons (i := 0) rfl (fun K hK => ?_) AllReadyH.nil)
          have bo := (E1.bx (da, [.slice a3 m2 c3, .int .i64 (g2 : Nat)]) (by simp)).1
          have d0 := bo.cell 0 _ rfl
          have d1 := bo.cell 1 _ rfl
          have dl := bo.lt
          clear bo
          rw [if_pos (show Region.wanted _ _ = true from rfl)]
          go_simp
          refine hK.out _ _ trivial (fun _ => ?_)
          clear hK d0 d1 dl
          refine wpAnyH_ready (rs := [2]) (by kernel_rfl) (by simp) (AllReadyH.cons (i := 2) rfl (fun K hK => ?_) AllReadyH.nil)
          refine step_e rfl (ethen_e E1 D2 [(16, 0)] g2 0 2 (.slice a3 m2 c3) _ (by simp) List.mem_cons_self (by have := HSz.out; have := HSz2.out; have := HlD1.out; have := HlD2.out; have := HlD3.out; simp only [List.length_singleton]; omega) (by have := HHm.out; have := HHb.out; have := hg1.out; have := hg2.out; have := hg3.out; omega) (JB.one (fun h => by cases h)) D3 hD3.out m3 hm3.out g3 hg3.out) (by first | rfl | go_simp) ?_
          intro u w2 hu
          obtain ⟨vkQ, aQ, cQ, rfl, E2⟩ := hu
          have E3 := chid (E2.put2 (x := .slice aQ m3 cQ) (y := .int .i64 (g3 : Nat)) (HNe.out) (HOd.out))
          have bo := (E2.bx (da, [.slice a3 m2 c3, .int .i64 (g2 : Nat)]) (by simp)).1
          have z0 := bo.cell 0 _ rfl
          have z1 := bo.cell 1 _ rfl
          have zf0 := bo.free 0 (by simp)
          have zf1 := bo.free 1 (by simp)
          have zl := bo.lt
          clear bo
          refine hK.out _ _ trivial (fun _ => ?_)
          clear hK
          refine wpAnyH_ready (rs := [3]) (by kernel_rfl) (by simp) (AllReadyH.cons (i := 3) rfl (fun K hK => ?_) AllReadyH.nil)
          rw [if_pos (show Region.wanted _ _ = true from rfl)]
          go_simp
          refine hK.out _ _ trivial (fun _ => ?_)
          clear hK
          refine wpAnyH_done (by kernel_rfl) ?_ _
          exact ⟨aP, cP, aQ, cQ, rfl, _, E3.out.sub (fun _ h => h) (fun q hq => (List.mem_cons.1 hq).elim (fun e => e ▸ List.mem_cons_self) (fun h => List.mem_cons_of_mem _ (List.mem_cons_of_mem _ (List.mem_cons_of_mem _ h))))⟩
      case hrest =>
      intro _ _ a4 c4 w4 hG
      obtain ⟨vk4, E9⟩ := hG
      replace EE := chid E9
      clear E9
      have x3 := (EE.out.bx (w.heap.size, [.int .i64 32, .int .i64 n, .int .i64 m, .slice (some ⟨b, off, none⟩) N cap]) (by simp)).1.cell 3 _ rfl
      have xl := (EE.out.bx (w.heap.size, [.int .i64 32, .int .i64 n, .int .i64 m, .slice (some ⟨b, off, none⟩) N cap]) (by simp)).1.lt
      have p10 := EE.out.cell HB.out.1 HB.out.2.1 HPb.out.1
      have p11 := EE.out.cell HB.out.1 HB.out.2.1 HPb.out.2.1
      have p12 := EE.out.cell HB.out.1 HB.out.2.1 HPb.out.2.2.1
      have p13 := EE.out.cell HB.out.1 HB.out.2.1 HPb.out.2.2.2
      have pl : b < w4.heap.size := Nat.lt_of_lt_of_le HB.out.1 EE.out.mw.turn.size
      go_wp2_with fail
      refine Calls.mono (HAx.out vk4 w4 (EE.out.core HSb.out) EE.out.mw.mkr) ?_
      intro e w5 g5
      have Hod5 : Hid (da < w5.heap.size) := chid (Nat.lt_of_lt_of_le (EE.out.bx (da, [.slice a4 m3 c4, .int .i64 (g3 : Nat)]) (by simp)).1.lt (msize g5))
      obtain ⟨vk5, a5, c5, rfl, E1⟩ := EE.out.call g5
      have HWV := chid E1.mw.turn.size
      replace EE := chid E1
      clear g5 E1 x3 xl p10 p11 p12 p13 pl
      go_wp2_with fail
      have E2 := EE.out.alloc (l := [.slice a5 G.length c5, .int .i64 (hg : Nat)]) (t := 55)
      obtain ⟨db, hdb⟩ : ∃ db, db = w5.heap.size := ⟨_, rfl⟩
      rw [← hdb] at E2 Hod5 ⊢
      generalize hV5 : (w5.alloc _) = V5 at *
      clear hV5 hdb HWV
      replace EE := chid (Env.sub (L' := (da, [.slice a4 m3 c4, .int .i64 (g3 : Nat)]) :: (db, [.slice a5 G.length c5, .int .i64 (hg : Nat)]) :: [(w.heap.size, [.int .i64 32, .int .i64 n, .int .i64 m, .slice (some ⟨b, off, none⟩) N cap]), (w.heap.size + 1, [.slice none 0 0, .int .i64 0])]) (PS' := [(D3, .slice a4 m3 c4), (G, .slice a5 G.length c5)]) E2 (by intro p hp; simp only [List.mem_cons, List.not_mem_nil, or_false] at hp ⊢; rcases hp with rfl | rfl | rfl | rfl <;> simp) (by intro p hp; simp only [List.mem_cons, List.not_mem_nil, or_false] at hp ⊢; rcases hp with rfl | rfl <;> simp))
      clear E2
      have HNe2 : Hid (∀ p, p ∈ ((db, [.slice a5 G.length c5, .int .i64 (hg : Nat)]) :: [(w.heap.size, [.int .i64 32, .int .i64 n, .int .i64 m, .slice (some ⟨b, off, none⟩) N cap]), (w.heap.size + 1, [.slice none 0 0, .int .i64 0])] : List (Nat × List Value)) → p.1 ≠ da) := chid (fun p hp => by
        rcases List.mem_cons.1 hp with rfl | hp
        · have := Hod5.out; show db ≠ da; omega
        · exact HNe.out p hp)
      have hw4 : IntKind.i64.wrap (2 + (G.length : Int)) = 2 + (G.length : Int) := by have := HSz.out; have := HSz2.out; rw [IntKind.wrap_i64]; omega
      obtain ⟨D5, hD5⟩ : ∃ CC9, Hid (CC9 = cat D3 [(24, (2 : Int) + (G.length : Int))]) := ⟨_, chid rfl⟩
      obtain ⟨m5, hm5⟩ : ∃ nn9, Hid (nn9 = D5.length) := ⟨_, chid rfl⟩
      obtain ⟨g5, hg5⟩ : ∃ gg9, Hid (gg9 = max g3 (0 + 1)) := ⟨_, chid rfl⟩
      have HlD5 : Hid (D5.length = D3.length + 1) := chid (by rw [hD5.out, cat_len]; rfl)
      have HSk : Hid (∀ L' PS' K' vk' u, Env mb (mft mb vk) W L' PS' K' vk' u → (∀ p, p ∈ [(db, [.slice a5 G.length c5, .int .i64 (hg : Nat)])] → p ∈ L') → (fun w' => w'.cell? ⟨db, 0, none⟩ = some (.slice a5 G.length c5)) u ∧ db < u.heap.size) := chid (fun _ _ _ _ u hE hL => ⟨(hE.bx (db, [.slice a5 G.length c5, .int .i64 (hg : Nat)]) (hL _ (by simp))).1.cell 0 _ rfl, (hE.bx (db, [.slice a5 G.length c5, .int .i64 (hg : Nat)]) (hL _ (by simp))).1.lt⟩)
      have hS9 := HSk.out _ _ _ _ _ EE.out (by simp)
      have e0 := hS9.1
      have el := hS9.2
      clear hS9
      apply viaQ2 (fun _ _ aQ cQ w' => ∃ vk', Env mb (mft mb vk) W ((da, [.slice aQ m5 cQ, .int .i64 (g5 : Nat)]) :: (db, [.slice a5 G.length c5, .int .i64 (hg : Nat)]) :: [(w.heap.size, [.int .i64 32, .int .i64 n, .int .i64 m, .slice (some ⟨b, off, none⟩) N cap]), (w.heap.size + 1, [.slice none 0 0, .int .i64 0])]) ((D5, .slice aQ m5 cQ) :: [(G, .slice a5 G.length c5)]) L2 vk' w')
      case hreg =>
        have ED := chid (EE.out.next (bdr V5))
        refine wp_region_held_drew (S := (fun w' => w'.cell? ⟨db, 0, none⟩ = some (.slice a5 G.length c5))) (by kernel_rfl) ((HSk.out _ _ _ _ _ ED.out (by simp)).1) (fun hS0 => ?_)
        refine wpAnyH_take (i := 1) (v := .pointer (some ⟨db, 0, none⟩)) rfl (by kernel_rfl) (by kernel_rfl) (by kernel_rfl) (fun _ _ _ h => h) (Or.inl ⟨rfl, fun w' hS' => ?_⟩) hS0 ?_
        · have q0 := hS'
          clear hS'
          go_simp
        refine wpAnyH_take (i := 2) (v := .slice a5 G.length c5) rfl (by kernel_rfl) (by kernel_rfl) (by kernel_rfl) (fun _ _ _ h => h) (Or.inl ⟨rfl, fun w' hS' => ?_⟩) hS0 ?_
        · have q0 := hS'
          clear hS'
          go_simp
        refine wpAnyH_take (i := 3) (v := .int .i64 (G.length : Nat)) rfl (by kernel_rfl) (by kernel_rfl) (by kernel_rfl) (fun _ _ _ h => h) (Or.inl ⟨rfl, fun w' hS' => ?_⟩) hS0 ?_
        · have q0 := hS'
          clear hS'
          go_simp
        refine wpAnyH_take (i := 4) (v := .int .i64 (2 + (G.length : Int))) rfl (by kernel_rfl) (by kernel_rfl) (by kernel_rfl) (fun _ _ _ h => h) (Or.inl ⟨rfl, fun w' hS' => ?_⟩) hS0 ?_
        · have q0 := hS'
          clear hS'
          go_simp
        refine wpAnyH_ready (rs := [0, 5]) (by kernel_rfl) (by simp) (AllReadyH.cons (i := 0) rfl (fun K hK => ?_) (AllReadyH.cons (i := 5) rfl (fun K hK => ?_) AllReadyH.nil))
        · skip
          have bo := (ED.out.bx (da, [.slice a4 m3 c4, .int .i64 (g3 : Nat)]) (by simp)).1
          have d0 := bo.cell 0 _ rfl
          have d1 := bo.cell 1 _ rfl
          have dl := bo.lt
          clear bo
          rw [if_pos (show Region.wanted _ _ = true from rfl)]
          go_simp
          refine hK.out _ _ hS0 (fun _ => ?_)
          clear hK d0 d1 dl
          refine wpAnyH_ready (rs := [5]) (by kernel_rfl) (by simp) (AllReadyH.cons (i := 5) rfl (fun K hK => ?_) AllReadyH.nil)
          refine step_e rfl (eone_e ED.out 24 (2 + (G.length : Int)) 0) (by first | rfl | go_simp) ?_
          intro u w1 hu
          obtain ⟨vkP, aP, cP, rfl, E1⟩ := hu
          have hS1 := (HSk.out _ _ _ _ _ E1 (by simp)).1
          refine hK.out _ _ hS1 (fun _ => ?_)
          clear hK
          refine wpAnyH_ready (rs := [6]) (by kernel_rfl) (by simp) (AllReadyH.cons (i := 6) rfl (fun K hK => ?_) AllReadyH.nil)
          refine step_e rfl (ethen_e E1 D3 [(24, (2 : Int) + (G.length : Int))] g3 0 1 (.slice a4 m3 c4) _ (by simp) List.mem_cons_self (by have := HSz.out; have := HSz2.out; have := HlD1.out; have := HlD2.out; have := HlD3.out; have := HlD5.out; simp only [List.length_singleton]; omega) (by have := HHm.out; have := HHb.out; have := hg1.out; have := hg2.out; have := hg3.out; have := hg5.out; omega) (JB.one (fun _ => by have := HSz.out; have := HSz2.out; omega)) D5 hD5.out m5 hm5.out g5 hg5.out) (by first | rfl | go_simp) ?_
          intro u w2 hu
          obtain ⟨vkQ, aQ, cQ, rfl, E2⟩ := hu
          have E3 := chid (E2.put2 (x := .slice aQ m5 cQ) (y := .int .i64 (g5 : Nat)) (HNe2.out) (HOd.out))
          have bo := (E2.bx (da, [.slice a4 m3 c4, .int .i64 (g3 : Nat)]) (by simp)).1
          have z0 := bo.cell 0 _ rfl
          have z1 := bo.cell 1 _ rfl
          have zf0 := bo.free 0 (by simp)
          have zf1 := bo.free 1 (by simp)
          have zl := bo.lt
          clear bo
          have hS2 := (HSk.out _ _ _ _ _ E2 (by simp)).1
          have hS3 := chid (HSk.out _ _ _ _ _ E3.out (by simp)).1
          refine hK.out _ _ hS2 (fun _ => ?_)
          clear hK hS2
          refine wpAnyH_ready (rs := [7]) (by kernel_rfl) (by simp) (AllReadyH.cons (i := 7) rfl (fun K hK => ?_) AllReadyH.nil)
          rw [if_pos (show Region.wanted _ _ = true from rfl)]
          go_simp
          refine hK.out _ _ hS3.out (fun _ => ?_)
          clear hK
          refine wpAnyH_done (by kernel_rfl) ?_ _
          exact ⟨aP, cP, aQ, cQ, rfl, _, E3.out.sub (fun _ h => h) (fun q hq => (List.mem_cons.1 hq).elim (fun e => e ▸ List.mem_cons_self) (fun h => List.mem_cons_of_mem _ (List.mem_cons_of_mem _ (List.mem_cons_of_mem _ h))))⟩
        · skip
          refine step_e rfl (eone_e ED.out 24 (2 + (G.length : Int)) 0) (by first | rfl | go_simp) ?_
          intro u w1 hu
          obtain ⟨vkP, aP, cP, rfl, E1⟩ := hu
          have hS1 := (HSk.out _ _ _ _ _ E1 (by simp)).1
          refine hK.out _ _ hS1 (fun _ => ?_)
          clear hK
          refine wpAnyH_ready (rs := [0]) (by kernel_rfl) (by simp) (AllReadyH.cons (i := 0) rfl (fun K hK => ?_) AllReadyH.nil)
          have bo := (E1.bx (da, [.slice a4 m3 c4, .int .i64 (g3 : Nat)]) (by simp)).1
          have d0 := bo.cell 0 _ rfl
          have d1 := bo.cell 1 _ rfl
          have dl := bo.lt
          clear bo
          rw [if_pos (show Region.wanted _ _ = true from rfl)]
          go_simp
          refine hK.out _ _ hS1 (fun _ => ?_)
          clear hK d0 d1 dl
          refine wpAnyH_ready (rs := [6]) (by kernel_rfl) (by simp) (AllReadyH.cons (i := 6) rfl (fun K hK => ?_) AllReadyH.nil)
          refine step_e rfl (ethen_e E1 D3 [(24, (2 : Int) + (G.length : Int))] g3 0 1 (.slice a4 m3 c4) _ (by simp) List.mem_cons_self (by have := HSz.out; have := HSz2.out; have := HlD1.out; have := HlD2.out; have := HlD3.out; have := HlD5.out; simp only [List.length_singleton]; omega) (by have := HHm.out; have := HHb.out; have := hg1.out; have := hg2.out; have := hg3.out; have := hg5.out; omega) (JB.one (fun _ => by have := HSz.out; have := HSz2.out; omega)) D5 hD5.out m5 hm5.out g5 hg5.out) (by first | rfl | go_simp) ?_
          intro u w2 hu
          obtain ⟨vkQ, aQ, cQ, rfl, E2⟩ := hu
          have E3 := chid (E2.put2 (x := .slice aQ m5 cQ) (y := .int .i64 (g5 : Nat)) (HNe2.out) (HOd.out))
          have bo := (E2.bx (da, [.slice a4 m3 c4, .int .i64 (g3 : Nat)]) (by simp)).1
          have z0 := bo.cell 0 _ rfl
          have z1 := bo.cell 1 _ rfl
          have zf0 := bo.free 0 (by simp)
          have zf1 := bo.free 1 (by simp)
          have zl := bo.lt
          clear bo
          have hS2 := (HSk.out _ _ _ _ _ E2 (by simp)).1
          have hS3 := chid (HSk.out _ _ _ _ _ E3.out (by simp)).1
          refine hK.out _ _ hS2 (fun _ => ?_)
          clear hK hS2
          refine wpAnyH_ready (rs := [7]) (by kernel_rfl) (by simp) (AllReadyH.cons (i := 7) rfl (fun K hK => ?_) AllReadyH.nil)
          rw [if_pos (show Region.wanted _ _ = true from rfl)]
          go_simp
          refine hK.out _ _ hS3.out (fun _ => ?_)
          clear hK
          refine wpAnyH_done (by kernel_rfl) ?_ _
          exact ⟨aP, cP, aQ, cQ, rfl, _, E3.out.sub (fun _ h => h) (fun q hq => (List.mem_cons.1 hq).elim (fun e => e ▸ List.mem_cons_self) (fun h => List.mem_cons_of_mem _ (List.mem_cons_of_mem _ (List.mem_cons_of_mem _ h))))⟩
      case hrest =>
      intro _ _ a6 c6 w6 hG
      obtain ⟨vk6, E9⟩ := hG
      clear HSk e0 el
      replace EE := chid E9
      clear E9
      go_wp2_with fail
      obtain ⟨D6, hD6⟩ : ∃ CC9, Hid (CC9 = cat D5 [(33, 0)]) := ⟨_, chid rfl⟩
      obtain ⟨m6, hm6⟩ : ∃ nn9, Hid (nn9 = D6.length) := ⟨_, chid rfl⟩
      obtain ⟨g6, hg6⟩ : ∃ gg9, Hid (gg9 = max g5 (0 + 1)) := ⟨_, chid rfl⟩
      have HlD6 : Hid (D6.length = D5.length + 1) := chid (by rw [hD6.out, cat_len]; rfl)
      apply viaQ2 (fun _ _ aQ cQ w' => ∃ vk', Env mb (mft mb vk) W ((da, [.slice aQ m6 cQ, .int .i64 (g6 : Nat)]) :: (db, [.slice a5 G.length c5, .int .i64 (hg : Nat)]) :: [(w.heap.size, [.int .i64 32, .int .i64 n, .int .i64 m, .slice (some ⟨b, off, none⟩) N cap]), (w.heap.size + 1, [.slice none 0 0, .int .i64 0])]) ((D6, .slice aQ m6 cQ) :: [(G, .slice a5 G.length c5)]) L2 vk' w')
      case hreg =>
        have ED := chid (EE.out.next (bdr w6))
        refine wp_region_held_drew (S := (fun _ => True)) (by kernel_rfl) (trivial) (fun hS0 => ?_)
        refine wpAnyH_ready (rs := [0, 1]) (by kernel_rfl) (by simp) (AllReadyH.cons (i := 0) rfl (fun K hK => ?_) (AllReadyH.cons (i := 1) rfl (fun K hK => ?_) AllReadyH.nil))
        · skip
          have bo := (ED.out.bx (da, [.slice a6 m5 c6, .int .i64 (g5 : Nat)]) (by simp)).1
          have d0 := bo.cell 0 _ rfl
          have d1 := bo.cell 1 _ rfl
          have dl := bo.lt
          clear bo
          rw [if_pos (show Region.wanted _ _ = true from rfl)]
          go_simp
          refine hK.out _ _ hS0 (fun _ => ?_)
          clear hK d0 d1 dl
          refine wpAnyH_ready (rs := [1]) (by kernel_rfl) (by simp) (AllReadyH.cons (i := 1) rfl (fun K hK => ?_) AllReadyH.nil)
          refine step_e rfl (eone_e ED.out 33 (0) 0) (by first | rfl | go_simp) ?_
          intro u w1 hu
          obtain ⟨vkP, aP, cP, rfl, E1⟩ := hu
          refine hK.out _ _ trivial (fun _ => ?_)
          clear hK
          refine wpAnyH_ready (rs := [2]) (by kernel_rfl) (by simp) (AllReadyH.cons (i := 2) rfl (fun K hK => ?_) AllReadyH.nil)
          refine step_e rfl (ethen_e E1 D5 [(33, 0)] g5 0 1 (.slice a6 m5 c6) _ (by simp) List.mem_cons_self (by have := HSz.out; have := HSz2.out; have := HlD1.out; have := HlD2.out; have := HlD3.out; have := HlD5.out; have := HlD6.out; simp only [List.length_singleton]; omega) (by have := HHm.out; have := HHb.out; have := hg1.out; have := hg2.out; have := hg3.out; have := hg5.out; have := hg6.out; omega) (JB.one (fun h => by cases h)) D6 hD6.out m6 hm6.out g6 hg6.out) (by first | rfl | go_simp) ?_
          intro u w2 hu
          obtain ⟨vkQ, aQ, cQ, rfl, E2⟩ := hu
          have E3 := chid (E2.put2 (x := .slice aQ m6 cQ) (y := .int .i64 (g6 : Nat)) (HNe2.out) (HOd.out))
          have bo := (E2.bx (da, [.slice a6 m5 c6, .int .i64 (g5 : Nat)]) (by simp)).1
          have z0 := bo.cell 0 _ rfl
          have z1 := bo.cell 1 _ rfl
          have zf0 := bo.free 0 (by simp)
          have zf1 := bo.free 1 (by simp)
          have zl := bo.lt
          clear bo
          refine hK.out _ _ trivial (fun _ => ?_)
          clear hK
          refine wpAnyH_ready (rs := [3]) (by kernel_rfl) (by simp) (AllReadyH.cons (i := 3) rfl (fun K hK => ?_) AllReadyH.nil)
          rw [if_pos (show Region.wanted _ _ = true from rfl)]
          go_simp
          refine hK.out _ _ trivial (fun _ => ?_)
          clear hK
          refine wpAnyH_done (by kernel_rfl) ?_ _
          exact ⟨aP, cP, aQ, cQ, rfl, _, E3.out.sub (fun _ h => h) (fun q hq => (List.mem_cons.1 hq).elim (fun e => e ▸ List.mem_cons_self) (fun h => List.mem_cons_of_mem _ (List.mem_cons_of_mem _ (List.mem_cons_of_mem _ h))))⟩
        · skip
          refine step_e rfl (eone_e ED.out 33 (0) 0) (by first | rfl | go_simp) ?_
          intro u w1 hu
          obtain ⟨vkP, aP, cP, rfl, E1⟩ := hu
          refine hK.out _ _ trivial (fun _ => ?_)
          clear hK
          refine wpAnyH_ready (rs := [0]) (by kernel_rfl) (by simp) (AllReadyH.cons (i := 0) rfl (fun K hK => ?_) AllReadyH.nil)
          have bo := (E1.bx (da, [.slice a6 m5 c6, .int .i64 (g5 : Nat)]) (by simp)).1
          have d0 := bo.cell 0 _ rfl
          have d1 := bo.cell 1 _ rfl
          have dl := bo.lt
          clear bo
          rw [if_pos (show Region.wanted _ _ = true from rfl)]
          go_simp
          refine hK.out _ _ trivial (fun _ => ?_)
          clear hK d0 d1 dl
          refine wpAnyH_ready (rs := [2]) (by kernel_rfl) (by simp) (AllReadyH.cons (i := 2) rfl (fun K hK => ?_) AllReadyH.nil)
          refine step_e rfl (ethen_e E1 D5 [(33, 0)] g5 0 1 (.slice a6 m5 c6) _ (by simp) List.mem_cons_self (by have := HSz.out; have := HSz2.out; have := HlD1.out; have := HlD2.out; have := HlD3.out; have := HlD5.out; have := HlD6.out; simp only [List.length_singleton]; omega) (by have := HHm.out; have := HHb.out; have := hg1.out; have := hg2.out; have := hg3.out; have := hg5.out; have := hg6.out; omega) (JB.one (fun h => by cases h)) D6 hD6.out m6 hm6.out g6 hg6.out) (by first | rfl | go_simp) ?_
          intro u w2 hu
          obtain ⟨vkQ, aQ, cQ, rfl, E2⟩ := hu
          have E3 := chid (E2.put2 (x := .slice aQ m6 cQ) (y := .int .i64 (g6 : Nat)) (HNe2.out) (HOd.out))
          have bo := (E2.bx (da, [.slice a6 m5 c6, .int .i64 (g5 : Nat)]) (by simp)).1
          have z0 := bo.cell 0 _ rfl
          have z1 := bo.cell 1 _ rfl
          have zf0 := bo.free 0 (by simp)
          have zf1 := bo.free 1 (by simp)
          have zl := bo.lt
          clear bo
          refine hK.out _ _ trivial (fun _ => ?_)
          clear hK
          refine wpAnyH_ready (rs := [3]) (by kernel_rfl) (by simp) (AllReadyH.cons (i := 3) rfl (fun K hK => ?_) AllReadyH.nil)
          rw [if_pos (show Region.wanted _ _ = true from rfl)]
          go_simp
          refine hK.out _ _ trivial (fun _ => ?_)
          clear hK
          refine wpAnyH_done (by kernel_rfl) ?_ _
          exact ⟨aP, cP, aQ, cQ, rfl, _, E3.out.sub (fun _ h => h) (fun q hq => (List.mem_cons.1 hq).elim (fun e => e ▸ List.mem_cons_self) (fun h => List.mem_cons_of_mem _ (List.mem_cons_of_mem _ (List.mem_cons_of_mem _ h))))⟩
      case hrest =>
      intro _ _ a7 c7 w7 hG
      obtain ⟨vk7, E9⟩ := hG
      replace EE := chid E9
      clear E9
      obtain ⟨D7, hD7⟩ : ∃ C2, Hid (C2 = cat D6 G) := ⟨_, chid rfl⟩
      obtain ⟨m7, hm7⟩ : ∃ n2, Hid (n2 = D7.length) := ⟨_, chid rfl⟩
      obtain ⟨g7, hg7⟩ : ∃ g2, Hid (g2 = max g6 (hg + 0)) := ⟨_, chid rfl⟩
      have HlD7 : Hid (D7.length = D6.length + G.length) := chid (by rw [hD7.out, cat_len])
      have d0 := (EE.out.bx (da, [.slice a7 m6 c7, .int .i64 (g6 : Nat)]) (by simp)).1.cell 0 _ rfl
      have d1 := (EE.out.bx (da, [.slice a7 m6 c7, .int .i64 (g6 : Nat)]) (by simp)).1.cell 1 _ rfl
      have dl := (EE.out.bx (da, [.slice a7 m6 c7, .int .i64 (g6 : Nat)]) (by simp)).1.lt
      have e0 := (EE.out.bx (db, [.slice a5 G.length c5, .int .i64 (hg : Nat)]) (by simp)).1.cell 0 _ rfl
      have e1 := (EE.out.bx (db, [.slice a5 G.length c5, .int .i64 (hg : Nat)]) (by simp)).1.cell 1 _ rfl
      have el := (EE.out.bx (db, [.slice a5 G.length c5, .int .i64 (hg : Nat)]) (by simp)).1.lt
      go_wp2_with fail
      refine Calls.mono (ethen_b D6 G g6 hg 0 _ _ w7 (EE.out.read (by simp)) (EE.out.read (by simp)) (by have := HSz.out; have := HSz2.out; have := HlD1.out; have := HlD2.out; have := HlD3.out; have := HlD5.out; have := HlD6.out; omega) (by have := HHm.out; have := HHb.out; have := hg1.out; have := hg2.out; have := hg3.out; have := hg5.out; have := hg6.out; omega) HJG.out D7 hD7.out m7 hm7.out g7 hg7.out) ?_
      rintro e w8 ⟨a8, c8, rfl, b8, p8⟩
      have E9 := EE.out.made b8 p8
      have zb := (E9.bx (da, [.slice a7 m6 c7, .int .i64 (g6 : Nat)]) (by simp)).1
      have z0 := zb.cell 0 _ rfl
      have z1 := zb.cell 1 _ rfl
      have zf0 := zb.free 0 (by simp)
      have zf1 := zb.free 1 (by simp)
      have zl := zb.lt
      have E8 := chid (E9.put2 (x := .slice a8 m7 c8) (y := .int .i64 (g7 : Nat)) HNe2.out HOd.out)
      clear zb E9 b8 p8 d0 d1 dl e0 e1 el EE
      go_wp2_with fail
      generalize hV9 : ((w8.setCell _ _).setCell _ _) = V9 at *
      clear hV9 z0 z1 zf0 zf1 zl
      go_roundw
      case rel =>
        refine ⟨k + 2, j + 1, D7, L2, vk7, g7, a8, c8, by go_num, chid (by have := Hk.out; omega), chid (by have := Hk.out; omega), ?_, ?_, ?_, ?_, ?_⟩
        · have h9 := E8.out
          rw [hm7.out] at h9
          exact chid (Env.sub h9 (by intro p hp; simp only [List.mem_cons, List.not_mem_nil, or_false] at hp ⊢; rcases hp with rfl | rfl | rfl <;> simp) (by intro p hp; simp only [List.mem_cons, List.not_mem_nil, or_false] at hp ⊢; subst hp; simp))
        · exact chid (by have h9 := HTn.out; rw [← hD1.out, ← hD2.out, ← hD3.out, ← hD5.out, ← hD6.out, ← hD7.out] at h9; exact h9)
        · exact chid (by have := HSz.out; have := HSz2.out; have := HlD1.out; have := HlD2.out; have := HlD3.out; have := HlD5.out; have := HlD6.out; have := HlD7.out; omega)
        · exact chid (by have := HHb.out; have := hg1.out; have := hg2.out; have := hg3.out; have := hg5.out; have := hg6.out; have := hg7.out; have := HH1.out; omega)
        · exact chid (by have := hg1.out; have := hg2.out; have := hg3.out; have := hg5.out; have := hg6.out; have := hg7.out; omega)
      case measure => simp; omega
    · have hlt' : ¬ (k : Int) < 2 * (q : Int) + 1 := by omega
      have hkm : Hid (k = 2 * q + 1 ∧ k < N) := chid (by have := Hk.out; have := Hj.out; have := HNq.out; omega)
      have hkN : (k : Int) < (N : Int) := by have := hkm.out; omega
      have hkN2 : 2 * (q : Int) + 1 < (N : Int) := by have := HNq.out; omega
      have hk2 : (2 * (q : Int) + 1).toNat = k := by have := hkm.out; omega
      have hq0 : ¬ (2 * (q : Int) + 1 < 0) := by omega
      have hq1 : (0 : Int) ≤ 2 * (q : Int) + 1 := by omega
      obtain ⟨x2, hx2⟩ : ∃ x2, P[k]? = some x2 := ⟨_, List.getElem?_eq_getElem (by have := hkm.out; have := hN.out; omega)⟩
      obtain ⟨b2, e2, sb2, v0, v1, v2, v3⟩ := HX.out k x2 hx2
      have HPb := chid (And.intro v0 (And.intro v1 (And.intro v2 v3)))
      have HSb := chid sb2
      obtain ⟨ihb, zb3⟩ := HAc.out k x2 hx2 (by have := hkm.out; omega) (.inr (by have := hkm.out; have := HNq.out; have := hN.out; omega))
      have HD2 : Hid (P.drop k = [x2]) := chid (by rw [drop_at' hx2, List.drop_eq_nil_of_le (by have := hkm.out; have := HNq.out; have := hN.out; omega)])
      obtain ⟨G, L2, hG⟩ : ∃ G L2, Hid (codF x2 L = (G, L2)) := ⟨_, _, chid rfl⟩
      have HSz2 : Hid (G.length ≤ 6 * cnodes x2 ∧ cnodesL (P.drop k) = cnodes x2) := chid (by
        have h9 := cod_lb x2 L
        rw [hG.out] at h9
        exact ⟨h9.1, by rw [HD2.out, cnodesL_cons, cnodesL_nil]; rfl⟩)
      have HJG : Hid (JB G) := chid (by
        have h9 := cod_jb (wn := wn) (cn := cn) (t := x2) (by omega) hnl (HPc.out x2 (List.mem_of_getElem? hx2)) L
        rw [hG.out] at h9
        exact h9)
      obtain ⟨hg, hhg⟩ : ∃ hg, Hid (hg = hgtF x2) := ⟨_, chid rfl⟩
      have HAx := chid (fun (vk' : Value) (u : World) (hs' : CSP (fun b => b < mb) u x2 (.slice b2 x2.parts.length e2)) (hk : Mkr u mb L vk') => ihb (.slice b2 x2.parts.length e2) mb L vk' u hs' hk (HPc.out x2 (List.mem_of_getElem? hx2)) (by have := HSz.out; have := HSz2.out; omega))
      simp only [hG.out, ← hhg.out] at HAx
      have HHb : Hid (max h (max 1 hg) = Hh) := chid (by
        have h9 := HHt.out
        rw [HD2.out] at h9
        rw [hhg.out]
        exact h9)
      have HTn : Hid (cat (cat D [(33, 0)]) G = T ∧ L2 = KT) := chid (by
        have h9 := erung_last x2 D L L2 G hG.out
        have h8 := HTt.out
        rw [HD2.out] at h8
        exact ⟨h9.1.symm.trans h8.1, h9.2.symm.trans h8.2⟩)
      clear sb2 v0 v1 v2 v3 ihb HTt HHt
      go_wp2_with fail
      obtain ⟨D1, hD1⟩ : ∃ CC9, Hid (CC9 = cat D [(33, 0)]) := ⟨_, chid rfl⟩
      obtain ⟨m1, hm1⟩ : ∃ nn9, Hid (nn9 = D1.length) := ⟨_, chid rfl⟩
      obtain ⟨g1, hg1⟩ : ∃ gg9, Hid (gg9 = max h (0 + 1)) := ⟨_, chid rfl⟩
      have HlD1 : Hid (D1.length = D.length + 1) := chid (by rw [hD1.out, cat_len]; rfl)
      apply viaQ2 (fun _ _ aQ cQ w' => ∃ vk', Env mb (mft mb vk) W ((da, [.slice aQ m1 cQ, .int .i64 (g1 : Nat)]) :: [(w.heap.size, [.int .i64 32, .int .i64 n, .int .i64 m, .slice (some ⟨b, off, none⟩) N cap]), (w.heap.size + 1, [.slice none 0 0, .int .i64 0])]) ((D1, .slice aQ m1 cQ) :: []) L vk' w')
      case hreg =>
        have ED := chid (EE.out.next (bdr wr))
        refine wp_region_held_drew (S := (fun _ => True)) (by kernel_rfl) (trivial) (fun hS0 => ?_)
        refine wpAnyH_ready (rs := [0, 1]) (by kernel_rfl) (by simp) (AllReadyH.cons (i := 0) rfl (fun K hK => ?_) (AllReadyH.cons (i := 1) rfl (fun K hK => ?_) AllReadyH.nil))
        · skip
          have bo := (ED.out.bx (da, [.slice a D.length c, .int .i64 (h : Nat)]) (by simp)).1
          have d0 := bo.cell 0 _ rfl
          have d1 := bo.cell 1 _ rfl
          have dl := bo.lt
          clear bo
          rw [if_pos (show Region.wanted _ _ = true from rfl)]
          go_simp
          refine hK.out _ _ hS0 (fun _ => ?_)
          clear hK d0 d1 dl
          refine wpAnyH_ready (rs := [1]) (by kernel_rfl) (by simp) (AllReadyH.cons (i := 1) rfl (fun K hK => ?_) AllReadyH.nil)
          refine step_e rfl (eone_e ED.out 33 (0) 0) (by first | rfl | go_simp) ?_
          intro u w1 hu
          obtain ⟨vkP, aP, cP, rfl, E1⟩ := hu
          refine hK.out _ _ trivial (fun _ => ?_)
          clear hK
          refine wpAnyH_ready (rs := [2]) (by kernel_rfl) (by simp) (AllReadyH.cons (i := 2) rfl (fun K hK => ?_) AllReadyH.nil)
          refine step_e rfl (ethen_e E1 D [(33, 0)] h 0 1 (.slice a D.length c) _ (by simp) List.mem_cons_self (by have := HSz.out; have := HSz2.out; have := HlD1.out; simp only [List.length_singleton]; omega) (by have := HHm.out; have := HHb.out; have := hg1.out; omega) (JB.one (fun h => by cases h)) D1 hD1.out m1 hm1.out g1 hg1.out) (by first | rfl | go_simp) ?_
          intro u w2 hu
          obtain ⟨vkQ, aQ, cQ, rfl, E2⟩ := hu
          have E3 := chid (E2.put2 (x := .slice aQ m1 cQ) (y := .int .i64 (g1 : Nat)) (HNe.out) (HOd.out))
          have bo := (E2.bx (da, [.slice a D.length c, .int .i64 (h : Nat)]) (by simp)).1
          have z0 := bo.cell 0 _ rfl
          have z1 := bo.cell 1 _ rfl
          have zf0 := bo.free 0 (by simp)
          have zf1 := bo.free 1 (by simp)
          have zl := bo.lt
          clear bo
          refine hK.out _ _ trivial (fun _ => ?_)
          clear hK
          refine wpAnyH_ready (rs := [3]) (by kernel_rfl) (by simp) (AllReadyH.cons (i := 3) rfl (fun K hK => ?_) AllReadyH.nil)
          rw [if_pos (show Region.wanted _ _ = true from rfl)]
          go_simp
          refine hK.out _ _ trivial (fun _ => ?_)
          clear hK
          refine wpAnyH_done (by kernel_rfl) ?_ _
          exact ⟨aP, cP, aQ, cQ, rfl, _, E3.out.sub (fun _ h => h) (fun q hq => (List.mem_cons.1 hq).elim (fun e => e ▸ List.mem_cons_self) (fun h => List.mem_cons_of_mem _ (List.mem_cons_of_mem _ (List.mem_cons_of_mem _ h))))⟩
        · skip
          refine step_e rfl (eone_e ED.out 33 (0) 0) (by first | rfl | go_simp) ?_
          intro u w1 hu
          obtain ⟨vkP, aP, cP, rfl, E1⟩ := hu
          refine hK.out _ _ trivial (fun _ => ?_)
          clear hK
          refine wpAnyH_ready (rs := [0]) (by kernel_rfl) (by simp) (AllReadyH.cons (i := 0) rfl (fun K hK => ?_) AllReadyH.nil)
          have bo := (E1.bx (da, [.slice a D.length c, .int .i64 (h : Nat)]) (by simp)).1
          have d0 := bo.cell 0 _ rfl
          have d1 := bo.cell 1 _ rfl
          have dl := bo.lt
          clear bo
          rw [if_pos (show Region.wanted _ _ = true from rfl)]
          go_simp
          refine hK.out _ _ trivial (fun _ => ?_)
          clear hK d0 d1 dl
          refine wpAnyH_ready (rs := [2]) (by kernel_rfl) (by simp) (AllReadyH.cons (i := 2) rfl (fun K hK => ?_) AllReadyH.nil)
          refine step_e rfl (ethen_e E1 D [(33, 0)] h 0 1 (.slice a D.length c) _ (by simp) List.mem_cons_self (by have := HSz.out; have := HSz2.out; have := HlD1.out; simp only [List.length_singleton]; omega) (by have := HHm.out; have := HHb.out; have := hg1.out; omega) (JB.one (fun h => by cases h)) D1 hD1.out m1 hm1.out g1 hg1.out) (by first | rfl | go_simp) ?_
          intro u w2 hu
          obtain ⟨vkQ, aQ, cQ, rfl, E2⟩ := hu
          have E3 := chid (E2.put2 (x := .slice aQ m1 cQ) (y := .int .i64 (g1 : Nat)) (HNe.out) (HOd.out))
          have bo := (E2.bx (da, [.slice a D.length c, .int .i64 (h : Nat)]) (by simp)).1
          have z0 := bo.cell 0 _ rfl
          have z1 := bo.cell 1 _ rfl
          have zf0 := bo.free 0 (by simp)
          have zf1 := bo.free 1 (by simp)
          have zl := bo.lt
          clear bo
          refine hK.out _ _ trivial (fun _ => ?_)
          clear hK
          refine wpAnyH_ready (rs := [3]) (by kernel_rfl) (by simp) (AllReadyH.cons (i := 3) rfl (fun K hK => ?_) AllReadyH.nil)
          rw [if_pos (show Region.wanted _ _ = true from rfl)]
          go_simp
          refine hK.out _ _ trivial (fun _ => ?_)
          clear hK
          refine wpAnyH_done (by kernel_rfl) ?_ _
          exact ⟨aP, cP, aQ, cQ, rfl, _, E3.out.sub (fun _ h => h) (fun q hq => (List.mem_cons.1 hq).elim (fun e => e ▸ List.mem_cons_self) (fun h => List.mem_cons_of_mem _ (List.mem_cons_of_mem _ (List.mem_cons_of_mem _ h))))⟩
      case hrest =>
      intro _ _ a2 c2 w2 hG
      obtain ⟨vk2, E9⟩ := hG
      replace EE := chid E9
      clear E9
      have HSk : Hid (∀ L' PS' K' vk' u, Env mb (mft mb vk) W L' PS' K' vk' u → (∀ p, p ∈ [(da, [.slice a2 m1 c2, .int .i64 (g1 : Nat)]), (w.heap.size, [.int .i64 32, .int .i64 n, .int .i64 m, .slice (some ⟨b, off, none⟩) N cap]), (w.heap.size + 1, [.slice none 0 0, .int .i64 0])] → p ∈ L') → (fun w' => w'.cell? ⟨da, 0, none⟩ = some (.slice a2 m1 c2) ∧ w'.cell? ⟨da, 1, none⟩ = some (.int .i64 (g1 : Nat)) ∧ w'.cell? ⟨w.heap.size, 3, none⟩ = some (.slice (some ⟨b, off, none⟩) N cap) ∧ w'.cell? ⟨b, off + k * 4, none⟩ = some (.int .i64 x2.op) ∧ w'.cell? ⟨b, off + k * 4 + 1, none⟩ = some (.int .i64 x2.n) ∧ w'.cell? ⟨b, off + k * 4 + 2, none⟩ = some (.int .i64 x2.m) ∧ w'.cell? ⟨b, off + k * 4 + 3, none⟩ = some (.slice b2 x2.parts.length e2)) u ∧ da < u.heap.size ∧ w.heap.size < u.heap.size ∧ b < u.heap.size) := chid (fun _ _ _ _ u hE hL => ⟨⟨(hE.bx (da, [.slice a2 m1 c2, .int .i64 (g1 : Nat)]) (hL _ (by simp))).1.cell 0 _ rfl, (hE.bx (da, [.slice a2 m1 c2, .int .i64 (g1 : Nat)]) (hL _ (by simp))).1.cell 1 _ rfl, (hE.bx (w.heap.size, [.int .i64 32, .int .i64 n, .int .i64 m, .slice (some ⟨b, off, none⟩) N cap]) (hL _ (by simp))).1.cell 3 _ rfl, hE.cell HB.out.1 HB.out.2.1 HPb.out.1, hE.cell HB.out.1 HB.out.2.1 HPb.out.2.1, hE.cell HB.out.1 HB.out.2.1 HPb.out.2.2.1, hE.cell HB.out.1 HB.out.2.1 HPb.out.2.2.2⟩, ⟨(hE.bx (da, [.slice a2 m1 c2, .int .i64 (g1 : Nat)]) (hL _ (by simp))).1.lt, (hE.bx (w.heap.size, [.int .i64 32, .int .i64 n, .int .i64 m, .slice (some ⟨b, off, none⟩) N cap]) (hL _ (by simp))).1.lt, Nat.lt_of_lt_of_le HB.out.1 hE.mw.turn.size⟩⟩)
      have hS9 := HSk.out _ _ _ _ _ EE.out (fun _ h => h)
      have d0 := hS9.1.1
      have d1 := hS9.1.2.1
      have x3 := hS9.1.2.2.1
      have p10 := hS9.1.2.2.2.1
      have p11 := hS9.1.2.2.2.2.1
      have p12 := hS9.1.2.2.2.2.2.1
      have p13 := hS9.1.2.2.2.2.2.2
      have dl := hS9.2.1
      have xl := hS9.2.2.1
      have pl := hS9.2.2.2
      clear hS9
      obtain ⟨C9, hC9⟩ : ∃ C9, Hid (C9 = cat D1 G) := ⟨_, chid rfl⟩
      obtain ⟨n9, hn9⟩ : ∃ n9, Hid (n9 = C9.length) := ⟨_, chid rfl⟩
      have HC9 : Hid (T = C9) := chid (by rw [hC9.out, hD1.out]; exact HTn.out.1.symm)
      have HT2 := chid (fun (X : World) (v : Value) (hv : PcQ X G v) (hX : PcQ X D1 (.slice a2 m1 c2)) => ethen_b D1 G g1 hg 0 (.slice a2 m1 c2) v X hX hv (by have := HSz.out; have := HSz2.out; have := HlD1.out; omega) (by have := HHm.out; have := HHb.out; have := hg1.out; omega) HJG.out C9 hC9.out n9 hn9.out Hh (by have := HHb.out; have := hg1.out; omega))
      have nr0 : da ≠ w.heap.size + 1 := by have h7 := HOd.out; have h8 := hWs.out; omega
      have nr0' : w.heap.size + 1 ≠ da := fun e => nr0 e.symm
      have nr1 : b ≠ w.heap.size + 1 := by have h7 := HB.out.2; omega
      have nr1' : w.heap.size + 1 ≠ b := fun e => nr1 e.symm
      have HWV4 : Hid (w.heap.size + 1 < w2.heap.size) := chid (EE.out.bx (w.heap.size + 1, [.slice none 0 0, .int .i64 0]) (by simp)).1.lt
      go_wp2_with fail
      go_region_held3 (fun w' => w'.cell? ⟨da, 0, none⟩ = some (.slice a2 m1 c2) ∧ w'.cell? ⟨da, 1, none⟩ = some (.int .i64 (g1 : Nat)) ∧ w'.cell? ⟨w.heap.size, 3, none⟩ = some (.slice (some ⟨b, off, none⟩) N cap) ∧ w'.cell? ⟨b, off + k * 4, none⟩ = some (.int .i64 x2.op) ∧ w'.cell? ⟨b, off + k * 4 + 1, none⟩ = some (.int .i64 x2.n) ∧ w'.cell? ⟨b, off + k * 4 + 2, none⟩ = some (.int .i64 x2.m) ∧ w'.cell? ⟨b, off + k * 4 + 3, none⟩ = some (.slice b2 x2.parts.length e2)) (simp [go_sem, *]) (first | (go_at_call 12; refine Calls.mono (HAx.out _ _ ((EE.out.next (bdr _)).core HSb.out) (EE.out.next (bdr _)).mw.mkr) ?_; intro e u1 g3; obtain ⟨vk5, a4, c4, rfl, E8⟩ := (EE.out.next (bdr _)).call g3; have Hsz1 := chid (msize g3); have E9 := E8; clear E8 g3; replace EE := chid E9; have hS9 := HSk.out _ _ _ _ _ EE.out (by (simp; done)); replace d0 := hS9.1.1; replace d1 := hS9.1.2.1; replace x3 := hS9.1.2.2.1; replace p10 := hS9.1.2.2.2.1; replace p11 := hS9.1.2.2.2.2.1; replace p12 := hS9.1.2.2.2.2.2.1; replace p13 := hS9.1.2.2.2.2.2.2; replace dl := hS9.2.1; replace xl := hS9.2.2.1; replace pl := hS9.2.2.2; clear hS9; clear E9) | (go_at_call 13; refine Calls.mono (HT2.out _ _ (Env.read (EE.out) (by (simp; done))) (Env.read (EE.out) (by (simp; done)))) ?_; rintro e u2 ⟨a5, c5, rfl, b2', p2'⟩; have HPl := chid p2'; have E9 := Env.made (EE.out) b2' p2'; clear b2' p2'; replace EE := chid E9; have hS9 := HSk.out _ _ _ _ _ EE.out (by (simp; done)); replace d0 := hS9.1.1; replace d1 := hS9.1.2.1; replace x3 := hS9.1.2.2.1; replace p10 := hS9.1.2.2.2.1; replace p11 := hS9.1.2.2.2.2.1; replace p12 := hS9.1.2.2.2.2.2.1; replace p13 := hS9.1.2.2.2.2.2.2; replace dl := hS9.2.1; replace xl := hS9.2.2.1; replace pl := hS9.2.2.2; clear hS9; clear E9; have Zz := (EE.out.bx (w.heap.size + 1, [.slice none 0 0, .int .i64 0]) (by simp)).1; have z0 := Zz.cell 0 _ rfl; have z1 := Zz.cell 1 _ rfl; have zf0 := Zz.free 0 (by simp); have zf1 := Zz.free 1 (by simp); have zl := Zz.lt; clear Zz))
      go_wp2_with fail
      refine bodyPost_ret (v := pcV (.slice a5 n9 c5) Hh) (by simp [results, Tryd.results12, go_sem, *]) rfl ?_
      rw [HC9.out, ← HTn.out.2]
      exact Mw.res HGe.out HBW.out (Nat.le_succ _) (by rw [hWs.out]; omega) EE.out.mw HPl.out (Nat.lt_of_lt_of_le HWV4.out Hsz1.out) _ _
end Go.Proofs.YtigldebdljfnbaaDoor

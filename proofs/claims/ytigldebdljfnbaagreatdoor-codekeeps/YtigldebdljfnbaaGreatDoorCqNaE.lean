import Derived.Test.YtigldebdljfnbaaGreatDoorCqNaD
import Derived.Test.YtigldebdljfnbaaGreatDoorCqMgP
namespace Go.Proofs.YtigldebdljfnbaaGreatDoor
open Go.RowKit

abbrev rgL (l : List Co) : List (Co × Mk) := l.map fun x => (x, codF x)
theorem rung_step (b a : Co) (r : List Co) (C : List Ins) (K K2 : List Int) (A : List Ins) (hA : codF a (numK K b.n) = (A, K2)) :
    cat C (rungM (rgL (b :: a :: r)) K).1 = cat ((cat (C ++ [(32, 0), (1, ((K.idxOf b.n : Nat) : Int)), (16, 0)] ++ [(24, 0)] ++ [(33, 0)]) A).set (C ++ [(32, 0), (1, ((K.idxOf b.n : Nat) : Int)), (16, 0)]).length (24, (0 : Int) + ((cat (C ++ [(32, 0), (1, ((K.idxOf b.n : Nat) : Int)), (16, 0)] ++ [(24, 0)] ++ [(33, 0)]) A).length : Int))) (rungM (rgL r) K2).1 ∧ (rungM (rgL (b :: a :: r)) K).2 = (rungM (rgL r) K2).2 := by
  have e : rungM (rgL (b :: a :: r)) K = (cat (cat [(32, 0)] (cat [(1, ((K.idxOf b.n : Nat) : Int))] [(16, 0)])) (cat (cat (cat [((24 : Int), (0 : Int) + ((((cat [(33, 0)] A).length + 1 + ([] : List Ins).length : Nat)) : Int))] (cat [(33, 0)] A)) []) (rungM (rgL r) K2).1), (rungM (rgL r) K2).2) := by
    show rungM ((b, codF b) :: (a, codF a) :: rgL r) K = _
    rw [rungM]
    unfold thenM overM insM numM
    simp only [hA]
  rw [e]
  refine ⟨?_, rfl⟩
  have h := over_laid (C ++ [(32, 0), (1, ((K.idxOf b.n : Nat) : Int)), (16, 0)]) (cat [(33, 0)] A) [] 24 0 rfl (fun x hx => by cases hx)
  rw [List.append_nil, ← cat_cat, ← cat_ins _ 33 0 rfl] at h
  rw [h]
  have h3 : C ++ [(32, 0), (1, ((K.idxOf b.n : Nat) : Int)), (16, 0)] = cat C (cat [(32, 0)] (cat [(1, ((K.idxOf b.n : Nat) : Int))] [(16, 0)])) := by
    rw [← cat_cat, ← cat_cat, ← cat_ins C 32 0 rfl, ← cat_ins _ 1 _ rfl, ← cat_ins _ 16 0 rfl]
    simp
  rw [h3]
  simp only [cat_cat]
theorem rung_last (a : Co) (C : List Ins) (K K2 : List Int) (A : List Ins) (hA : codF a K = (A, K2)) : cat C (rungM (rgL [a]) K).1 = cat (C ++ [(33, 0)]) A ∧ (rungM (rgL [a]) K).2 = K2 := by
  have e : rungM (rgL [a]) K = (cat [(33, 0)] A, K2) := by
    show rungM ((a, codF a) :: []) K = _
    rw [rungM]
    unfold thenM insM
    simp only [hA]
    intro b a r
    cases r
  rw [e, cat_ins _ 33 0 rfl, cat_cat]
  exact ⟨rfl, rfl⟩
theorem drop_at {α : Type} {l : List α} {i : Nat} {x : α} (h : l[i]? = some x) : l.drop i = x :: l.drop (i + 1) := by
  obtain ⟨h1, h2⟩ := List.getElem?_eq_some_iff.1 h
  rw [List.drop_eq_getElem_cons h1, h2]
theorem Wk.lay3 {w0 w : World} {bb : Nat} {F : List Nat} {C : List Ins} {K : List Int} {vc vk : Value} (h : Wk bb F w0 C K vc vk w) (o1 a1 o2 a2 o3 a3 : Int) (hb : C.length + 3 ≤ 1000000) :
    Calls Tryz.prog 52 #[.pointer (some ⟨bb, 0, none⟩), .slice (some ⟨w.heap.size, 0, none⟩) 3 3] (w.alloc (.cells #[.int .i64 o1, .int .i64 a1, .int .i64 o2, .int .i64 a2, .int .i64 o3, .int .i64 a3] 44)) fun e w' => e = .returned (.tuple #[]) ∧ ∃ vc' vk', Wk bb F w0 (C ++ [(o1, a1), (o2, a2), (o3, a3)]) K vc' vk' w' ∧ Stay bb w0 vc vk w vc' vk' w' := by
  have B : Below w.heap.size w (w.alloc (.cells #[.int .i64 o1, .int .i64 a1, .int .i64 o2, .int .i64 a2, .int .i64 o3, .int .i64 a3] 44)) := (Below.refl _ _).alloc (Nat.le_refl _) _
  have h1 := h.next B
  refine Calls.mono (lay_c bb C [(o1, a1), (o2, a2), (o3, a3)] K vc vk w.heap.size 3 _ h1.bd (by show 0 < 3; decide) (Box.new w [.int .i64 o1, .int .i64 a1, .int .i64 o2, .int .i64 a2, .int .i64 o3, .int .i64 a3] 44) hb) ?_
  rintro e w' ⟨rfl, g⟩
  obtain ⟨vc', vk', k, s⟩ := h1.went g
  exact ⟨rfl, vc', vk', k, fun j more at' o => s j more at' (o.next B)⟩
set_option maxHeartbeats 4000000 in
set_option maxRecDepth 20000 in
theorem kladder_c (P : List Co) (ih : ∀ x, x ∈ P → CodC x) (m : Nat) (hl : P.length = 2 * m + 2) (v : Value) (bb : Nat) (C : List Ins) (K : List Int) (vc vk : Value) (w : World)
    (hs : CAP (fun b => b < bb) w v P) (h : Bd w bb C K vc vk) (hp : PoAt w bb) (hz : ∀ x, x ∈ P → sM x ≠ 0)
    (hC : C.length + 8 * (1 + cnodesL P) ≤ 900000) (hK : K.length + 2 * (1 + cnodesL P) ≤ 900000) (a : Co) (r : List Co) (hP : P = a :: r) :
    Calls Tryz.prog 58 #[.pointer (some ⟨bb, 0, none⟩), v] w fun e w' => e = .returned (.tuple #[]) ∧ Went bb (foot bb vc vk) w (cat C (thenM (codF a) (rungM (rgL r)) K).1) (thenM (codF a) (rungM (rgL r)) K).2 w' := by
  obtain ⟨b, off, cap, rfl, q1, q2, q3, q4, q5⟩ := hs.open (by omega)
  have HQ := chid q5
  have HF : Hid (∀ i, i ∈ foot bb vc vk → bb ≤ i ∧ i < w.heap.size) := chid h.ge
  have H0 := chid (Wk.start h)
  have HP := chid hp
  have HZ := chid hz
  have HI := chid ih
  have HN := chid (And.intro hC hK)
  obtain ⟨N, hN⟩ : ∃ N, Hid (N = P.length) := ⟨_, chid rfl⟩
  have HNm : Hid (N = 2 * m + 2) := chid (hN.out.trans hl)
  obtain ⟨T, KT, hT⟩ : ∃ T KT, Hid (cat C (thenM (codF a) (rungM (rgL r)) K).1 = T ∧ (thenM (codF a) (rungM (rgL r)) K).2 = KT) := ⟨_, _, chid ⟨rfl, rfl⟩⟩
  rw [hT.out.1, hT.out.2]
  have HPa := chid hP
  rw [← hN.out] at q1 ⊢
  have HR : Hid (∀ (i : Nat) (_ : i < N) (W : World) (C' : List Ins) (K' : List Int) (vc' vk' : Value), Wk bb (foot bb vc vk) w C' K' vc' vk' W → ∃ x ux, P[i]? = some x ∧ x ∈ P ∧ CSP (fun b => b < bb) W x ux ∧ (∃ ax cx, ux = .slice ax x.parts.length cx) ∧ Four W b (off + i * 4) x ux ∧ b < W.heap.size) := chid (fun i hi W C' K' vc' vk' hk => by
    have hi' : i < P.length := by rw [← hN.out]; exact hi
    obtain ⟨u, f, s⟩ := HQ.out i hi'
    obtain ⟨ax, cx, hu, -, -⟩ := s.parts.shape
    have hb : b ∉ foot bb vc vk := fun hm => by have := (HF.out b hm).1; omega
    exact ⟨P[i], u, List.getElem?_eq_getElem hi', List.getElem_mem hi', hk.core (fun i hi => (HF.out i hi).1) s, ⟨ax, cx, hu⟩, f.keep (fun j => cturn_cell hk.turn q3 hb), Nat.lt_of_lt_of_le q3 hk.turn.size⟩)
  obtain ⟨A, K1, hA⟩ : ∃ A K1, Hid (codF a K = (A, K1)) := ⟨_, _, chid rfl⟩
  have hlen : (N : Int) - 1 = ((2 * m + 1 : Nat) : Int) := by have := HNm.out; omega
  have hw1 : IntKind.i64.wrap ((N : Int) - 1) = ((2 * m + 1 : Nat) : Int) := by have := HNm.out; have := HN.out; have := length_cnodesL P; have := hN.out; rw [IntKind.wrap_i64]; omega
  obtain ⟨x0, ux, e0, m0, s0, ⟨ax, cx, rfl⟩, f0, l0⟩ := HR.out 0 (by have := HNm.out; omega) w C K vc vk H0.out
  obtain rfl : x0 = a := by rw [hP] at e0; exact (Option.some.inj e0).symm
  have HS0 := chid (And.intro s0 m0)
  rw [show off + 0 * 4 = off by omega] at f0
  obtain ⟨c0, c1, c2, c3⟩ := f0
  have hN0 : 0 < N := by have := HNm.out; omega
  clear hs h hp hz ih hC hK hl hP q5 e0 m0 s0 HQ
  go_enter Tryz.func58, Tryz.ntmps58
  go_wp2_with fail
  refine Calls.mono (HI.out x0 HS0.out.2 _ bb C K vc vk w HS0.out.1 H0.out.bd HP.out (HZ.out x0 HS0.out.2) (by have := HN.out; have := cnodesL_mem HS0.out.2; omega) (by have := HN.out; have := cnodesL_mem HS0.out.2; omega)) ?_
  rintro e w1 ⟨rfl, g1⟩
  rw [hA.out] at g1
  obtain ⟨vc1, vk1, k1, -⟩ := H0.out.went g1
  have H1 := chid k1
  have HL1 : Hid (A.length ≤ 6 * cnodes x0 ∧ K1.length ≤ K.length + 2 * cnodes x0) := chid (by
    have h2 := cod_lb x0 K
    rw [hA.out] at h2
    exact h2)
  have HT1 : Hid (cat (cat C A) (rungM (rgL (P.drop 1)) K1).1 = T ∧ (rungM (rgL (P.drop 1)) K1).2 = KT) := chid (by
    have := hT.out
    unfold thenM at this
    simp only [hA.out] at this
    rw [HPa.out, cat_cat]
    exact this)
  clear g1 k1 c0 c1 c2 c3 l0 HS0
  have HC1 : Hid ((cat C A).length + 8 * cnodesL (P.drop 1) + 8 ≤ 900000 ∧ K1.length + 2 * cnodesL (P.drop 1) ≤ 900000) := chid (by
    have h1 := HN.out
    have h2 := HL1.out
    rw [HPa.out, cnodesL_cons] at h1
    rw [HPa.out, cat_len, List.drop_succ_cons, List.drop_zero]
    omega)
  clear HL1 hT hA HN HPa
  go_wp2_with fail
  go_loopw [5] (fun i wr => ∃ (k j : Nat) (D : List Ins) (L : List Int) (vd vl : Value), i = .int .i64 (k : Nat) ∧ Hid (k = 2 * j + 1) ∧ Hid (j ≤ m) ∧ Hid (Wk bb (foot bb vc vk) w D L vd vl wr) ∧ Hid (cat D (rungM (rgL (P.drop k)) L).1 = T ∧ (rungM (rgL (P.drop k)) L).2 = KT) ∧ Hid (D.length + 8 * cnodesL (P.drop k) + 8 ≤ 900000 ∧ L.length + 2 * cnodesL (P.drop k) ≤ 900000)) (fun i _ => match i with | .int _ z => ((N : Int) - z).toNat | _ => 0)
  case atStart => exact ⟨1, 0, _, _, _, _, rfl, chid rfl, chid (Nat.zero_le _), H1, HT1, HC1⟩
  case round =>
    obtain ⟨k, j, D, L, vd, vl, rfl, Hk, Hj, HW, HT, HC⟩ := hrel
    by_cases hlt : k < 2 * m + 1
    · have hlt' : (k : Int) < 2 * (m : Int) + 1 := by omega
      have hkN : (k : Int) < (N : Int) := by have := HNm.out; omega
      have hkN1 : (k : Int) + 1 < (N : Int) := by have := HNm.out; omega
      have hw2 : IntKind.i64.wrap ((k : Int) + 1) = (k : Int) + 1 := by rw [IntKind.wrap_i64]; omega
      have hw3 : IntKind.i64.wrap ((k : Int) + 2) = (k : Int) + 2 := by rw [IntKind.wrap_i64]; omega
      obtain ⟨x, ux, e0, m0, s0, -, f0, l0⟩ := HR.out k (by omega) wr D L vd vl HW.out
      obtain ⟨y, uy, e1, m1, -⟩ := HR.out (k + 1) (by omega) wr D L vd vl HW.out
      have HD : Hid (P.drop k = x :: y :: P.drop (k + 2)) := chid (by rw [drop_at e0, drop_at e1])
      have HM := chid (And.intro e1 m1)
      have d1 := f0.c1
      clear e0 m0 s0 f0 e1 m1
      obtain ⟨G, K3, hG⟩ : ∃ G K3, Hid (codF y (numK L x.n) = (G, K3)) := ⟨_, _, chid rfl⟩
      have HLG : Hid (G.length ≤ 6 * cnodes y ∧ K3.length ≤ L.length + 1 + 2 * cnodes y ∧ (numK L x.n).length ≤ L.length + 1 ∧ cnodesL (P.drop k) = cnodes x + (cnodes y + cnodesL (P.drop (k + 2))) ∧ 1 ≤ cnodes x ∧ 1 ≤ cnodes y) := chid (by
        have h2 := cod_lb y (numK L x.n)
        have h3 := numK_len L x.n
        rw [hG.out] at h2
        refine ⟨h2.1, by have := h2.2; simp only at this; omega, h3, ?_, cnodes_pos x, cnodes_pos y⟩
        rw [HD.out, cnodesL_cons, cnodesL_cons])
      have HT2 : Hid (cat ((cat (D ++ [(32, 0), (1, ((L.idxOf x.n : Nat) : Int)), (16, 0)] ++ [(24, 0)] ++ [(33, 0)]) G).set (D ++ [(32, 0), (1, ((L.idxOf x.n : Nat) : Int)), (16, 0)]).length (24, (0 : Int) + ((cat (D ++ [(32, 0), (1, ((L.idxOf x.n : Nat) : Int)), (16, 0)] ++ [(24, 0)] ++ [(33, 0)]) G).length : Int))) (rungM (rgL (P.drop (k + 2))) K3).1 = T ∧ (rungM (rgL (P.drop (k + 2))) K3).2 = KT) := chid (by
        have h1 := rung_step x y (P.drop (k + 2)) D L K3 G hG.out
        have h2 := HT.out
        rw [HD.out] at h2
        exact ⟨h1.1.symm.trans h2.1, h1.2.symm.trans h2.2⟩)
      obtain ⟨ix, hix⟩ : ∃ ix, Hid (ix = L.idxOf x.n) := ⟨_, chid rfl⟩
      rw [← hix.out] at HT2
      clear HT
      go_wp2_with fail
      refine Calls.mono (number_c bb D L vd vl x.n wr HW.out.bd (by have := HC.out; have := HLG.out; omega)) ?_
      rintro e w2 ⟨rfl, g2⟩
      rw [← hix.out]
      obtain ⟨vd2, vl2, k2, -⟩ := HW.out.went g2
      have H2 := chid k2
      clear g2 k2 d1 l0
      go_wp2_with fail
      refine Calls.mono (H2.out.lay3 32 0 1 ix 16 0 (by have := HC.out; omega)) ?_
      rintro e w3 ⟨rfl, vd3, vl3, k3, -⟩
      have H3 := chid k3
      clear k3
      go_wp2_with fail
      refine Calls.mono (jump_c bb (D ++ [(32, 0), (1, (ix : Int)), (16, 0)]) (numK L x.n) vd3 vl3 24 0 w3 H3.out.bd (by rw [List.length_append]; have := HC.out; simp only [List.length_cons, List.length_nil]; omega)) ?_
      intro e w4 g4
      obtain ⟨rfl, vd4, vl4, k4, -, o4⟩ := H3.out.jumped g4
      have H4 := chid k4
      have O4 := chid o4
      clear g4 k4 o4
      go_wp2_with fail
      refine Calls.mono (H4.out.lay1 33 0 (by simp only [List.length_append, List.length_cons, List.length_nil]; have := HC.out; omega)) ?_
      rintro e w5 ⟨rfl, vd5, vl5, k5, s5⟩
      have H5 := chid k5
      have O5 := chid (s5 _ _ _ O4.out)
      clear k5 s5 O4
      obtain ⟨y', uy, e1, m1, s1, ⟨ay, cy, rfl⟩, ⟨c0, c1, c2, c3⟩, l1⟩ := HR.out (k + 1) (by omega) w5 _ _ _ _ H5.out
      obtain rfl : y' = y := by have := HM.out.1; rw [e1] at this; exact Option.some.inj this
      have HS1 := chid s1
      clear e1 m1 s1
      go_wp2_with fail
      refine Calls.mono (HI.out y' HM.out.2 _ bb _ (numK L x.n) vd5 vl5 w5 HS1.out H5.out.bd (H5.out.po (fun i hi => (HF.out i hi).1) HP.out) (HZ.out y' HM.out.2) (by simp only [List.length_append, List.length_cons, List.length_nil]; have := HC.out; have := HLG.out; omega) (by have := HC.out; have := HLG.out; omega)) ?_
      rintro e w6 ⟨rfl, g6⟩
      rw [hG.out] at g6
      obtain ⟨vd6, vl6, k6, s6⟩ := H5.out.went g6
      have H6 := chid k6
      have O6 := chid (s6 _ _ _ O5.out)
      clear g6 k6 s6 O5 c0 c1 c2 c3 l1 HS1
      go_wp2_with fail
      refine Calls.mono (fill_c w3.heap.size bb _ K3 vd6 vl6 0 (D ++ [(32, 0), (1, (ix : Int)), (16, 0)]).length (24, 0) w6 H6.out.bd O6.out.jm (cat_at (app_at (snoc_at _ _))) (small_64 (by simp only [cat_len, List.length_append, List.length_cons, List.length_nil]; have := HC.out; have := HLG.out; omega)) O6.out.far) ?_
      rintro e w7 ⟨rfl, g7⟩
      obtain ⟨vd7, vl7, k7, -⟩ := H6.out.went g7
      have H7 := chid k7
      clear g7 k7 O6
      have HC7 : Hid (((cat (D ++ [(32, 0), (1, (ix : Int)), (16, 0)] ++ [(24, 0)] ++ [(33, 0)]) G).set (D ++ [(32, 0), (1, (ix : Int)), (16, 0)]).length (24, (0 : Int) + ((cat (D ++ [(32, 0), (1, (ix : Int)), (16, 0)] ++ [(24, 0)] ++ [(33, 0)]) G).length : Int))).length + 8 * cnodesL (P.drop (k + 2)) + 8 ≤ 900000 ∧ K3.length + 2 * cnodesL (P.drop (k + 2)) ≤ 900000) := chid (by
        have := HC.out
        have := HLG.out
        simp only [List.length_set, cat_len, List.length_append, List.length_cons, List.length_nil]
        omega)
      go_wp2_with fail
      go_roundw
      case rel => exact ⟨k + 2, j + 1, _, _, _, _, by go_num, chid (by have := Hk.out; omega), chid (by have := Hk.out; omega), H7, HT2, HC7⟩
      case measure => simp; omega
    · have hlt' : ¬ (k : Int) < 2 * (m : Int) + 1 := by omega
      have hkm : Hid (k = 2 * m + 1 ∧ k < N) := chid (by have := Hk.out; have := Hj.out; have := HNm.out; omega)
      have hkN : (k : Int) < (N : Int) := by have := hkm.out; omega
      have hkN2 : 2 * (m : Int) + 1 < (N : Int) := by have := HNm.out; omega
      have hk2 : (2 * (m : Int) + 1).toNat = k := by have := hkm.out; omega
      obtain ⟨x, ux, e0, m0, -⟩ := HR.out k hkm.out.2 wr D L vd vl HW.out
      have HM := chid (And.intro e0 m0)
      have HD : Hid (P.drop k = [x]) := chid (by
        rw [drop_at e0, List.drop_eq_nil_of_le (by have := hkm.out; have := HNm.out; have := hN.out; omega)])
      obtain ⟨G, K3, hG⟩ : ∃ G K3, Hid (codF x L = (G, K3)) := ⟨_, _, chid rfl⟩
      have HT2 : Hid (cat (D ++ [(33, 0)]) G = T ∧ K3 = KT) := chid (by
        have h1 := rung_last x D L K3 G hG.out
        have h2 := HT.out
        rw [HD.out] at h2
        exact ⟨h1.1.symm.trans h2.1, h1.2.symm.trans h2.2⟩)
      have HLG : Hid (cnodesL (P.drop k) = cnodes x) := chid (by rw [HD.out, cnodesL_cons, cnodesL_nil]; rfl)
      clear HT e0 m0
      go_wp2_with fail
      refine Calls.mono (HW.out.lay1 33 0 (by have := HC.out; omega)) ?_
      rintro e w5 ⟨rfl, vd5, vl5, k5, -⟩
      have H5 := chid k5
      clear k5
      obtain ⟨y', uy, e1, m1, s1, ⟨ay, cy, rfl⟩, ⟨c0, c1, c2, c3⟩, l1⟩ := HR.out k hkm.out.2 w5 _ _ _ _ H5.out
      obtain rfl : y' = x := by have := HM.out.1; rw [e1] at this; exact Option.some.inj this
      have HS1 := chid s1
      clear e1 m1 s1
      go_wp2_with fail
      refine Calls.mono (HI.out y' HM.out.2 _ bb _ L vd5 vl5 w5 HS1.out H5.out.bd (H5.out.po (fun i hi => (HF.out i hi).1) HP.out) (HZ.out y' HM.out.2) (by simp only [List.length_append, List.length_cons, List.length_nil]; have := HC.out; have := HLG.out; omega) (by have := HC.out; have := HLG.out; omega)) ?_
      rintro e w6 ⟨rfl, g6⟩
      rw [hG.out] at g6
      obtain ⟨vd6, vl6, k6, -⟩ := H5.out.went g6
      have H6 := chid k6
      clear g6 k6 c0 c1 c2 c3 l1 HS1
      go_wp2_with fail
      refine bodyPost_end (v := .tuple #[]) (by simp [results, Tryz.results58, go_sem, *]) rfl ?_
      rw [← HT2.out.1, ← HT2.out.2]
      exact ⟨rfl, H6.out.done⟩

theorem sM_parts {t : Co} (h : sM t ≠ 0) : ∀ x, x ∈ t.parts → sM x ≠ 0 := by
  obtain ⟨k, -, -, -, -, hp, -⟩ := formed_w h
  exact hp
theorem Went.cell {bb : Nat} {F : List Nat} {w w' : World} {C : List Ins} {K : List Int} (h : Went bb F w C K w') {p : Addr} (hp : p.block < w.heap.size) (hn : p.block ∉ F) : w'.cell? p = w.cell? p := by
  obtain ⟨_, _, _, t, _⟩ := h
  exact t.cell hp hn
theorem Went.size {bb : Nat} {F : List Nat} {w w' : World} {C : List Ins} {K : List Int} (h : Went bb F w C K w') : w.heap.size ≤ w'.heap.size := by
  obtain ⟨_, _, _, t, _⟩ := h
  exact t.size
theorem leaf_sM0 : sM ⟨2, 0, 0, []⟩ ≠ 0 := by
  show csort ladF 256 256 256 _ ≠ 0
  rw [csort_eq]
  decide
theorem leaf_sM1 : sM ⟨2, 1, 0, []⟩ ≠ 0 := by
  show csort ladF 256 256 256 _ ≠ 0
  rw [csort_eq]
  decide
theorem part_at {w w' : World} {bb b off : Nat} {P : List Co} (hx : ∀ i (h : i < P.length), ∃ u, Four w b (off + i * 4) P[i] u ∧ CSP (fun b => b < bb) w P[i] u) (hb : b < w.heap.size) (k : Below w.heap.size w w') {i : Nat} {x : Co} (h : P[i]? = some x) :
    ∃ a c, CSP (fun b => b < bb) w' x (.slice a x.parts.length c) ∧ w'.cell? ⟨b, off + i * 4, none⟩ = some (.int .i64 x.op) ∧ w'.cell? ⟨b, off + i * 4 + 1, none⟩ = some (.int .i64 x.n) ∧ w'.cell? ⟨b, off + i * 4 + 2, none⟩ = some (.int .i64 x.m) ∧ w'.cell? ⟨b, off + i * 4 + 3, none⟩ = some (.slice a x.parts.length c) := by
  obtain ⟨hi, rfl⟩ := List.getElem?_eq_some_iff.1 h
  obtain ⟨u, f, s⟩ := hx i hi
  obtain ⟨a, c, rfl, -, -⟩ := s.parts.shape
  exact ⟨a, c, s.next k, (k.cell (p := ⟨b, _, none⟩) hb).trans f.c0, (k.cell (p := ⟨b, _, none⟩) hb).trans f.c1, (k.cell (p := ⟨b, _, none⟩) hb).trans f.c2, (k.cell (p := ⟨b, _, none⟩) hb).trans f.c3⟩
set_option maxHeartbeats 2000000 in
set_option maxRecDepth 20000 in
theorem core_num (k : Int) (hk : k = 1 ∨ k = 2) (n m : Int) (P : List Co) : CodC ⟨k, n, m, P⟩ := by
  intro v bb C K vc vk w hs h hp hz hC hK
  have hcn := cnodes_pos ⟨k, n, m, P⟩
  obtain ⟨ad, cap, rfl, k1, k2⟩ := hs.parts.shape
  obtain ⟨Y0, YB⟩ := one_box w 30 [.int .i64 k, .int .i64 n, .int .i64 m, .slice ad P.length cap]
  have H0 := chid (Wk.start (h.next YB))
  have HB := chid YB
  have HL : Hid (C.length + 1 ≤ 1000000 ∧ K.length + 1 ≤ 1000000) := chid (by omega)
  have HE : Hid (codF ⟨k, n, m, P⟩ = numM n) := chid (by rw [codF_eq]; exact codO_num _ hk)
  rw [HE.out]
  have x0 := Y0.cell 0 _ rfl
  have x1 := Y0.cell 1 _ rfl
  have x2 := Y0.cell 2 _ rfl
  have x3 := Y0.cell 3 _ rfl
  have xl := Y0.lt
  clear hs h hp hz hC hK hcn Y0 YB k1 k2
  have hks : k = 1 ∨ k = 2 := hk
  clear hk
  rcases hks with rfl | rfl
  all_goals
    go_enter Tryz.func28, Tryz.ntmps28
    go_wp2_with fail
    generalize hW : (w.alloc _) = W at *
    clear hW
    refine Calls.mono (number_c bb C K vc vk n W H0.out.bd HL.out.2) ?_
    rintro e w2 ⟨rfl, g2⟩
    obtain ⟨vd2, vl2, k2, -⟩ := H0.out.went g2
    have H2 := chid k2
    clear g2 k2 x0 x1 x2 x3 xl
    go_wp2_with fail
    refine Calls.mono (H2.out.lay1 1 (K.idxOf n : Nat) HL.out.1) ?_
    rintro e w3 ⟨rfl, vd3, vl3, k3, -⟩
    have H3 := chid k3
    clear k3
    go_wp2_with fail
    refine bodyPost_end (v := .tuple #[]) (by simp [results, Tryz.results28, go_sem, *]) rfl ?_
    have g := Went.alloc HB.out H3.out.done HB.out.size
    rw [cat_ins _ 1 _ rfl] at g
    exact ⟨rfl, g⟩
set_option maxHeartbeats 2000000 in
set_option maxRecDepth 20000 in
theorem core_memo (n m : Int) (y : Co) (hy : CodC y) : CodC ⟨7, n, m, [y]⟩ := by
  intro v bb C K vc vk w hs h hp hz hC hK
  have hcn : cnodes ⟨7, n, m, [y]⟩ = 1 + cnodes y := by rw [cnodes_eq]; simp only [cnodesL_cons, cnodesL_nil]; omega
  have hzy := sM_parts hz y (by simp)
  have hn : 0 ≤ n ∧ n < 256 := by
    obtain ⟨k, hop, -, -, hb, -, -⟩ := shp_of hz
    obtain rfl : k = 7 := by have : (7 : Int) = (k : Int) := hop; omega
    have hb' : (belowB n 256 && decide (m = 0)) = true := hb
    unfold belowB at hb'
    simp only [Bool.and_eq_true, decide_eq_true_eq] at hb'
    exact hb'.1
  obtain ⟨b, off, cap, rfl, k1, k2, hbl, hbb, hx⟩ := hs.parts.open (by show 0 < 1; decide)
  obtain ⟨Y0, YB⟩ := one_box w 30 [.int .i64 7, .int .i64 n, .int .i64 m, .slice (some ⟨b, off, none⟩) 1 cap]
  have HB := chid YB
  have hbl' := Nat.lt_of_lt_of_le hbl YB.size
  obtain ⟨ay, cy, sy, yy0, yy1, yy2, yy3⟩ := part_at hx hbl YB (i := 0) (x := y) rfl
  rw [show off + 0 * 4 = off by omega] at yy0 yy1 yy2 yy3
  rw [hcn] at hC hK
  have HM := chid (fun W (hW : Below (w.alloc (.cells #[.int .i64 7, .int .i64 n, .int .i64 m, .slice (some ⟨b, off, none⟩) 1 cap] 30)).heap.size (w.alloc (.cells #[.int .i64 7, .int .i64 n, .int .i64 m, .slice (some ⟨b, off, none⟩) 1 cap] 30)) W) => memo_c n y hy (.slice ay y.parts.length cy) bb C K vc vk W (sy.next hW) ((h.next YB).next hW) ((hp.next YB).next hW) hzy hn hC hK)
  have nf : w.heap.size ∉ foot bb vc vk := fun hm => by have := (h.ge _ hm).2; omega
  have nb : b ∉ foot bb vc vk := fun hm => by have := (h.ge _ hm).1; omega
  have HE : Hid (codF ⟨7, n, m, [y]⟩ = overM 27 (n * 16384) (codF y) [(28, n)]) := chid (by rw [codF_eq]; unfold codO; simp only [show ¬ ((7 : Int) = 1 ∨ (7 : Int) = 2) by decide, if_false, if_true]; rfl)
  rw [HE.out]
  have x0 := Y0.cell 0 _ rfl
  have x1 := Y0.cell 1 _ rfl
  have x2 := Y0.cell 2 _ rfl
  have x3 := Y0.cell 3 _ rfl
  have xl := Y0.lt
  clear hs h hp hz hC hK hcn Y0 YB hy hzy hx sy k1 k2 hbl hbb hn
  go_enter Tryz.func28, Tryz.ntmps28
  go_wp2_with fail
  generalize hW : (w.alloc _) = W at *
  clear hW
  go_region_held3 (fun w' => w'.cell? ⟨w.heap.size, 1, none⟩ = some (.int .i64 n) ∧ w'.cell? ⟨w.heap.size, 3, none⟩ = some (.slice (some ⟨b, off, none⟩) 1 cap) ∧ (w'.cell? ⟨b, off, none⟩ = some (.int .i64 y.op) ∧ w'.cell? ⟨b, off + 1, none⟩ = some (.int .i64 y.n) ∧ w'.cell? ⟨b, off + 2, none⟩ = some (.int .i64 y.m) ∧ w'.cell? ⟨b, off + 3, none⟩ = some (.slice ay y.parts.length cy))) (simp [go_sem, *]) (first | (go_at_call 54; refine Calls.mono (HM.out _ (by exact drewN_below W _)) ?_; rintro e w2 ⟨rfl, g2⟩; have gg := fun p v hp hn hv => (Went.cell g2 (p := p) hp hn).trans (hv : W.cell? p = some v); replace x1 := gg _ _ xl nf x1; replace x3 := gg _ _ xl nf x3; replace yy0 := gg _ _ hbl' nb yy0; replace yy1 := gg _ _ hbl' nb yy1; replace yy2 := gg _ _ hbl' nb yy2; replace yy3 := gg _ _ hbl' nb yy3; replace xl : w.heap.size < w2.heap.size := Nat.lt_of_lt_of_le xl (by have hh := Went.size g2; exact hh); replace hbl' : b < w2.heap.size := Nat.lt_of_lt_of_le hbl' (by have hh := Went.size g2; exact hh); have HG := chid g2; clear g2 gg))
  all_goals go_wp2_with fail
  refine bodyPost_end (v := .tuple #[]) (by simp [results, Tryz.results28, go_sem, *]) rfl ?_
  exact ⟨rfl, Went.alloc HB.out.drew HG.out HB.out.drew.size⟩
set_option maxHeartbeats 2000000 in
set_option maxRecDepth 20000 in
theorem core_and (n m : Int) (x y : Co) (hx_ : CodC x) (hy : CodC y) : CodC ⟨25, n, m, [x, y]⟩ := by
  intro v bb C K vc vk w hs h hp hz hC hK
  have hcn : cnodes ⟨25, n, m, [x, y]⟩ = 1 + cnodes x + cnodes y := by rw [cnodes_eq]; simp only [cnodesL_cons, cnodesL_nil]; omega
  have hzx := sM_parts hz x (by simp)
  have hzy := sM_parts hz y (by simp)
  obtain ⟨b, off, cap, rfl, k1, k2, hbl, hbb, hx⟩ := hs.parts.open (by show 0 < 2; decide)
  obtain ⟨Y0, YB⟩ := one_box w 30 [.int .i64 25, .int .i64 n, .int .i64 m, .slice (some ⟨b, off, none⟩) 2 cap]
  have HB := chid YB
  have hbl' := Nat.lt_of_lt_of_le hbl YB.size
  obtain ⟨ax, cx, sx, yx0, yx1, yx2, yx3⟩ := part_at hx hbl YB (i := 0) (x := x) rfl
  rw [show off + 0 * 4 = off by omega] at yx0 yx1 yx2 yx3
  obtain ⟨ay, cy, sy, yy0, yy1, yy2, yy3⟩ := part_at hx hbl YB (i := 1) (x := y) rfl
  rw [show off + 1 * 4 = off + 4 by omega] at yy0 yy1 yy2 yy3
  rw [hcn] at hC hK
  have HM := chid (fun W (hW : Below (w.alloc (.cells #[.int .i64 25, .int .i64 n, .int .i64 m, .slice (some ⟨b, off, none⟩) 2 cap] 30)).heap.size (w.alloc (.cells #[.int .i64 25, .int .i64 n, .int .i64 m, .slice (some ⟨b, off, none⟩) 2 cap] 30)) W) => choice_c x y ⟨2, 0, 0, []⟩ hx_ hy (core_num 2 (.inr rfl) 0 0 []) (.slice ax x.parts.length cx) (.slice ay y.parts.length cy) (.slice none 0 0) bb C K vc vk W (sx.next hW) (sy.next hW) (CSP.leaf W ⟨by show C64 2; unfold C64; omega, by show C64 0; unfold C64; omega, by show C64 0; unfold C64; omega⟩) ((h.next YB).next hW) ((hp.next YB).next hW) hzx hzy leaf_sM0 (by rw [show cnodes ⟨2, 0, 0, []⟩ = 1 from by rw [cnodes_eq]; rfl]; omega) (by rw [show cnodes ⟨2, 0, 0, []⟩ = 1 from by rw [cnodes_eq]; rfl]; omega))
  have nf : w.heap.size ∉ foot bb vc vk := fun hm => by have := (h.ge _ hm).2; omega
  have nb : b ∉ foot bb vc vk := fun hm => by have := (h.ge _ hm).1; omega
  have HE : Hid (codF ⟨25, n, m, [x, y]⟩ = thenM (codF x) (forkM 24 23 (codF y) (codF ⟨2, 0, 0, []⟩))) := chid (by rw [codF_eq]; unfold codO; simp only [show ¬ ((25 : Int) = 1 ∨ (25 : Int) = 2) by decide, if_false, show ¬ (25 : Int) = 7 by decide, show ¬ (25 : Int) = 13 by decide, if_true, show codF ⟨2, 0, 0, []⟩ = numM 0 from by rw [codF_eq]; exact codO_num _ (.inr rfl)]; rfl)
  rw [HE.out]
  have x0 := Y0.cell 0 _ rfl
  have x1 := Y0.cell 1 _ rfl
  have x2 := Y0.cell 2 _ rfl
  have x3 := Y0.cell 3 _ rfl
  have xl := Y0.lt
  clear hs h hp hz hC hK hcn Y0 YB hx_ hy hzx hzy hx sx sy k1 k2 hbl hbb
  go_enter Tryz.func28, Tryz.ntmps28
  go_wp2_with fail
  generalize hW : (w.alloc _) = W at *
  clear hW
  go_region_held3 (fun w' => w'.cell? ⟨w.heap.size, 3, none⟩ = some (.slice (some ⟨b, off, none⟩) 2 cap) ∧ (w'.cell? ⟨b, off, none⟩ = some (.int .i64 x.op) ∧ w'.cell? ⟨b, off + 1, none⟩ = some (.int .i64 x.n) ∧ w'.cell? ⟨b, off + 2, none⟩ = some (.int .i64 x.m) ∧ w'.cell? ⟨b, off + 3, none⟩ = some (.slice ax x.parts.length cx)) ∧ (w'.cell? ⟨b, off + 4, none⟩ = some (.int .i64 y.op) ∧ w'.cell? ⟨b, off + 4 + 1, none⟩ = some (.int .i64 y.n) ∧ w'.cell? ⟨b, off + 4 + 2, none⟩ = some (.int .i64 y.m) ∧ w'.cell? ⟨b, off + 4 + 3, none⟩ = some (.slice ay y.parts.length cy))) (simp [go_sem, *]) (first | (go_at_call 56; refine Calls.mono (HM.out _ (by exact drewN_below W _)) ?_; rintro e w2 ⟨rfl, g2⟩; have gg := fun p v hp hn hv => (Went.cell g2 (p := p) hp hn).trans (hv : W.cell? p = some v); replace x1 := gg _ _ xl nf x1; replace x3 := gg _ _ xl nf x3; replace yx0 := gg _ _ hbl' nb yx0; replace yx1 := gg _ _ hbl' nb yx1; replace yx2 := gg _ _ hbl' nb yx2; replace yx3 := gg _ _ hbl' nb yx3; replace yy0 := gg _ _ hbl' nb yy0; replace yy1 := gg _ _ hbl' nb yy1; replace yy2 := gg _ _ hbl' nb yy2; replace yy3 := gg _ _ hbl' nb yy3; replace xl : w.heap.size < w2.heap.size := Nat.lt_of_lt_of_le xl (by have hh := Went.size g2; exact hh); replace hbl' : b < w2.heap.size := Nat.lt_of_lt_of_le hbl' (by have hh := Went.size g2; exact hh); have HG := chid g2; clear g2 gg))
  all_goals go_wp2_with fail
  refine bodyPost_end (v := .tuple #[]) (by simp [results, Tryz.results28, go_sem, *]) rfl ?_
  exact ⟨rfl, Went.alloc HB.out.drew HG.out HB.out.drew.size⟩
set_option maxHeartbeats 2000000 in
set_option maxRecDepth 20000 in
theorem core_or (n m : Int) (x y : Co) (hx_ : CodC x) (hy : CodC y) : CodC ⟨26, n, m, [x, y]⟩ := by
  intro v bb C K vc vk w hs h hp hz hC hK
  have hcn : cnodes ⟨26, n, m, [x, y]⟩ = 1 + cnodes x + cnodes y := by rw [cnodes_eq]; simp only [cnodesL_cons, cnodesL_nil]; omega
  have hzx := sM_parts hz x (by simp)
  have hzy := sM_parts hz y (by simp)
  obtain ⟨b, off, cap, rfl, k1, k2, hbl, hbb, hx⟩ := hs.parts.open (by show 0 < 2; decide)
  obtain ⟨Y0, YB⟩ := one_box w 30 [.int .i64 26, .int .i64 n, .int .i64 m, .slice (some ⟨b, off, none⟩) 2 cap]
  have HB := chid YB
  have hbl' := Nat.lt_of_lt_of_le hbl YB.size
  obtain ⟨ax, cx, sx, yx0, yx1, yx2, yx3⟩ := part_at hx hbl YB (i := 0) (x := x) rfl
  rw [show off + 0 * 4 = off by omega] at yx0 yx1 yx2 yx3
  obtain ⟨ay, cy, sy, yy0, yy1, yy2, yy3⟩ := part_at hx hbl YB (i := 1) (x := y) rfl
  rw [show off + 1 * 4 = off + 4 by omega] at yy0 yy1 yy2 yy3
  rw [hcn] at hC hK
  have HM := chid (fun W (hW : Below (w.alloc (.cells #[.int .i64 26, .int .i64 n, .int .i64 m, .slice (some ⟨b, off, none⟩) 2 cap] 30)).heap.size (w.alloc (.cells #[.int .i64 26, .int .i64 n, .int .i64 m, .slice (some ⟨b, off, none⟩) 2 cap] 30)) W) => choice_c x ⟨2, 1, 0, []⟩ y hx_ (core_num 2 (.inr rfl) 1 0 []) hy (.slice ax x.parts.length cx) (.slice none 0 0) (.slice ay y.parts.length cy) bb C K vc vk W (sx.next hW) (CSP.leaf W ⟨by show C64 2; unfold C64; omega, by show C64 1; unfold C64; omega, by show C64 0; unfold C64; omega⟩) (sy.next hW) ((h.next YB).next hW) ((hp.next YB).next hW) hzx leaf_sM1 hzy (by rw [show cnodes ⟨2, 1, 0, []⟩ = 1 from by rw [cnodes_eq]; rfl]; omega) (by rw [show cnodes ⟨2, 1, 0, []⟩ = 1 from by rw [cnodes_eq]; rfl]; omega))
  have nf : w.heap.size ∉ foot bb vc vk := fun hm => by have := (h.ge _ hm).2; omega
  have nb : b ∉ foot bb vc vk := fun hm => by have := (h.ge _ hm).1; omega
  have HE : Hid (codF ⟨26, n, m, [x, y]⟩ = thenM (codF x) (forkM 24 23 (codF ⟨2, 1, 0, []⟩) (codF y))) := chid (by rw [codF_eq]; unfold codO; simp only [show ¬ ((26 : Int) = 1 ∨ (26 : Int) = 2) by decide, if_false, show ¬ (26 : Int) = 7 by decide, show ¬ (26 : Int) = 13 by decide, show ¬ (26 : Int) = 25 by decide, if_true, show codF ⟨2, 1, 0, []⟩ = numM 1 from by rw [codF_eq]; exact codO_num _ (.inr rfl)]; rfl)
  rw [HE.out]
  have x0 := Y0.cell 0 _ rfl
  have x1 := Y0.cell 1 _ rfl
  have x2 := Y0.cell 2 _ rfl
  have x3 := Y0.cell 3 _ rfl
  have xl := Y0.lt
  clear hs h hp hz hC hK hcn Y0 YB hx_ hy hzx hzy hx sx sy k1 k2 hbl hbb
  go_enter Tryz.func28, Tryz.ntmps28
  go_wp2_with fail
  generalize hW : (w.alloc _) = W at *
  clear hW
  go_region_held3 (fun w' => w'.cell? ⟨w.heap.size, 3, none⟩ = some (.slice (some ⟨b, off, none⟩) 2 cap) ∧ (w'.cell? ⟨b, off, none⟩ = some (.int .i64 x.op) ∧ w'.cell? ⟨b, off + 1, none⟩ = some (.int .i64 x.n) ∧ w'.cell? ⟨b, off + 2, none⟩ = some (.int .i64 x.m) ∧ w'.cell? ⟨b, off + 3, none⟩ = some (.slice ax x.parts.length cx)) ∧ (w'.cell? ⟨b, off + 4, none⟩ = some (.int .i64 y.op) ∧ w'.cell? ⟨b, off + 4 + 1, none⟩ = some (.int .i64 y.n) ∧ w'.cell? ⟨b, off + 4 + 2, none⟩ = some (.int .i64 y.m) ∧ w'.cell? ⟨b, off + 4 + 3, none⟩ = some (.slice ay y.parts.length cy))) (simp [go_sem, *]) (first | (go_at_call 56; refine Calls.mono (HM.out _ (by exact drewN_below W _)) ?_; rintro e w2 ⟨rfl, g2⟩; have gg := fun p v hp hn hv => (Went.cell g2 (p := p) hp hn).trans (hv : W.cell? p = some v); replace x1 := gg _ _ xl nf x1; replace x3 := gg _ _ xl nf x3; replace yx0 := gg _ _ hbl' nb yx0; replace yx1 := gg _ _ hbl' nb yx1; replace yx2 := gg _ _ hbl' nb yx2; replace yx3 := gg _ _ hbl' nb yx3; replace yy0 := gg _ _ hbl' nb yy0; replace yy1 := gg _ _ hbl' nb yy1; replace yy2 := gg _ _ hbl' nb yy2; replace yy3 := gg _ _ hbl' nb yy3; replace xl : w.heap.size < w2.heap.size := Nat.lt_of_lt_of_le xl (by have hh := Went.size g2; exact hh); replace hbl' : b < w2.heap.size := Nat.lt_of_lt_of_le hbl' (by have hh := Went.size g2; exact hh); have HG := chid g2; clear g2 gg))
  all_goals go_wp2_with fail
  refine bodyPost_end (v := .tuple #[]) (by simp [results, Tryz.results28, go_sem, *]) rfl ?_
  exact ⟨rfl, Went.alloc HB.out.drew HG.out HB.out.drew.size⟩
set_option maxHeartbeats 2000000 in
set_option maxRecDepth 20000 in
theorem core_if (n m : Int) (x y z : Co) (hx_ : CodC x) (hy : CodC y) (hz_ : CodC z) : CodC ⟨28, n, m, [x, y, z]⟩ := by
  intro v bb C K vc vk w hs h hp hz hC hK
  have hcn : cnodes ⟨28, n, m, [x, y, z]⟩ = 1 + cnodes x + cnodes y + cnodes z := by rw [cnodes_eq]; simp only [cnodesL_cons, cnodesL_nil]; omega
  have hzx := sM_parts hz x (by simp)
  have hzy := sM_parts hz y (by simp)
  have hzz := sM_parts hz z (by simp)
  obtain ⟨b, off, cap, rfl, k1, k2, hbl, hbb, hx⟩ := hs.parts.open (by show 0 < 3; decide)
  obtain ⟨Y0, YB⟩ := one_box w 30 [.int .i64 28, .int .i64 n, .int .i64 m, .slice (some ⟨b, off, none⟩) 3 cap]
  have HB := chid YB
  have hbl' := Nat.lt_of_lt_of_le hbl YB.size
  obtain ⟨ax, cx, sx, yx0, yx1, yx2, yx3⟩ := part_at hx hbl YB (i := 0) (x := x) rfl
  rw [show off + 0 * 4 = off by omega] at yx0 yx1 yx2 yx3
  obtain ⟨ay, cy, sy, yy0, yy1, yy2, yy3⟩ := part_at hx hbl YB (i := 1) (x := y) rfl
  rw [show off + 1 * 4 = off + 4 by omega] at yy0 yy1 yy2 yy3
  obtain ⟨az, cz, sz, yz0, yz1, yz2, yz3⟩ := part_at hx hbl YB (i := 2) (x := z) rfl
  rw [show off + 2 * 4 = off + 8 by omega] at yz0 yz1 yz2 yz3
  rw [hcn] at hC hK
  have HM := chid (fun W (hW : Below (w.alloc (.cells #[.int .i64 28, .int .i64 n, .int .i64 m, .slice (some ⟨b, off, none⟩) 3 cap] 30)).heap.size (w.alloc (.cells #[.int .i64 28, .int .i64 n, .int .i64 m, .slice (some ⟨b, off, none⟩) 3 cap] 30)) W) => choice_c x y z hx_ hy hz_ (.slice ax x.parts.length cx) (.slice ay y.parts.length cy) (.slice az z.parts.length cz) bb C K vc vk W (sx.next hW) (sy.next hW) (sz.next hW) ((h.next YB).next hW) ((hp.next YB).next hW) hzx hzy hzz (by omega) (by omega))
  have nf : w.heap.size ∉ foot bb vc vk := fun hm => by have := (h.ge _ hm).2; omega
  have nb : b ∉ foot bb vc vk := fun hm => by have := (h.ge _ hm).1; omega
  have HE : Hid (codF ⟨28, n, m, [x, y, z]⟩ = thenM (codF x) (forkM 24 23 (codF y) (codF z))) := chid (by rw [codF_eq]; unfold codO; simp only [show ¬ ((28 : Int) = 1 ∨ (28 : Int) = 2) by decide, if_false, show ¬ (28 : Int) = 7 by decide, show ¬ (28 : Int) = 13 by decide, show ¬ (28 : Int) = 25 by decide, show ¬ (28 : Int) = 26 by decide, if_true]; rfl)
  rw [HE.out]
  have x0 := Y0.cell 0 _ rfl
  have x1 := Y0.cell 1 _ rfl
  have x2 := Y0.cell 2 _ rfl
  have x3 := Y0.cell 3 _ rfl
  have xl := Y0.lt
  clear hs h hp hz hC hK hcn Y0 YB hx_ hy hz_ hzx hzy hzz hx sx sy sz k1 k2 hbl hbb
  go_enter Tryz.func28, Tryz.ntmps28
  go_wp2_with fail
  generalize hW : (w.alloc _) = W at *
  clear hW
  go_region_held3 (fun w' => w'.cell? ⟨w.heap.size, 3, none⟩ = some (.slice (some ⟨b, off, none⟩) 3 cap) ∧ (w'.cell? ⟨b, off, none⟩ = some (.int .i64 x.op) ∧ w'.cell? ⟨b, off + 1, none⟩ = some (.int .i64 x.n) ∧ w'.cell? ⟨b, off + 2, none⟩ = some (.int .i64 x.m) ∧ w'.cell? ⟨b, off + 3, none⟩ = some (.slice ax x.parts.length cx)) ∧ (w'.cell? ⟨b, off + 4, none⟩ = some (.int .i64 y.op) ∧ w'.cell? ⟨b, off + 4 + 1, none⟩ = some (.int .i64 y.n) ∧ w'.cell? ⟨b, off + 4 + 2, none⟩ = some (.int .i64 y.m) ∧ w'.cell? ⟨b, off + 4 + 3, none⟩ = some (.slice ay y.parts.length cy)) ∧ (w'.cell? ⟨b, off + 8, none⟩ = some (.int .i64 z.op) ∧ w'.cell? ⟨b, off + 8 + 1, none⟩ = some (.int .i64 z.n) ∧ w'.cell? ⟨b, off + 8 + 2, none⟩ = some (.int .i64 z.m) ∧ w'.cell? ⟨b, off + 8 + 3, none⟩ = some (.slice az z.parts.length cz))) (simp [go_sem, *]) (first | (go_at_call 56; refine Calls.mono (HM.out _ (by exact drewN_below W _)) ?_; rintro e w2 ⟨rfl, g2⟩; have gg := fun p v hp hn hv => (Went.cell g2 (p := p) hp hn).trans (hv : W.cell? p = some v); replace x1 := gg _ _ xl nf x1; replace x3 := gg _ _ xl nf x3; replace yx0 := gg _ _ hbl' nb yx0; replace yx1 := gg _ _ hbl' nb yx1; replace yx2 := gg _ _ hbl' nb yx2; replace yx3 := gg _ _ hbl' nb yx3; replace yy0 := gg _ _ hbl' nb yy0; replace yy1 := gg _ _ hbl' nb yy1; replace yy2 := gg _ _ hbl' nb yy2; replace yy3 := gg _ _ hbl' nb yy3; replace yz0 := gg _ _ hbl' nb yz0; replace yz1 := gg _ _ hbl' nb yz1; replace yz2 := gg _ _ hbl' nb yz2; replace yz3 := gg _ _ hbl' nb yz3; replace xl : w.heap.size < w2.heap.size := Nat.lt_of_lt_of_le xl (by have hh := Went.size g2; exact hh); replace hbl' : b < w2.heap.size := Nat.lt_of_lt_of_le hbl' (by have hh := Went.size g2; exact hh); have HG := chid g2; clear g2 gg))
  all_goals go_wp2_with fail
  refine bodyPost_end (v := .tuple #[]) (by simp [results, Tryz.results28, go_sem, *]) rfl ?_
  exact ⟨rfl, Went.alloc HB.out.drew HG.out HB.out.drew.size⟩
set_option maxHeartbeats 2000000 in
set_option maxRecDepth 20000 in
theorem core_either (n m : Int) (x y : Co) (hx_ : CodC x) (hy : CodC y) : CodC ⟨27, n, m, [x, y]⟩ := by
  intro v bb C K vc vk w hs h hp hz hC hK
  have hcn : cnodes ⟨27, n, m, [x, y]⟩ = 1 + cnodes x + cnodes y := by rw [cnodes_eq]; simp only [cnodesL_cons, cnodesL_nil]; omega
  have hzx := sM_parts hz x (by simp)
  have hzy := sM_parts hz y (by simp)
  obtain ⟨b, off, cap, rfl, k1, k2, hbl, hbb, hx⟩ := hs.parts.open (by show 0 < 2; decide)
  obtain ⟨Y0, YB⟩ := one_box w 30 [.int .i64 27, .int .i64 n, .int .i64 m, .slice (some ⟨b, off, none⟩) 2 cap]
  have HB := chid YB
  have hbl' := Nat.lt_of_lt_of_le hbl YB.size
  obtain ⟨ax, cx, sx, yx0, yx1, yx2, yx3⟩ := part_at hx hbl YB (i := 0) (x := x) rfl
  rw [show off + 0 * 4 = off by omega] at yx0 yx1 yx2 yx3
  obtain ⟨ay, cy, sy, yy0, yy1, yy2, yy3⟩ := part_at hx hbl YB (i := 1) (x := y) rfl
  rw [show off + 1 * 4 = off + 4 by omega] at yy0 yy1 yy2 yy3
  rw [hcn] at hC hK
  have HM := chid (fun W (hW : Below (w.alloc (.cells #[.int .i64 27, .int .i64 n, .int .i64 m, .slice (some ⟨b, off, none⟩) 2 cap] 30)).heap.size (w.alloc (.cells #[.int .i64 27, .int .i64 n, .int .i64 m, .slice (some ⟨b, off, none⟩) 2 cap] 30)) W) => either_c x y hx_ hy (.slice ax x.parts.length cx) (.slice ay y.parts.length cy) bb C K vc vk W (sx.next hW) (sy.next hW) ((h.next YB).next hW) ((hp.next YB).next hW) hzx hzy (by omega) (by omega))
  have nf : w.heap.size ∉ foot bb vc vk := fun hm => by have := (h.ge _ hm).2; omega
  have nb : b ∉ foot bb vc vk := fun hm => by have := (h.ge _ hm).1; omega
  have HE : Hid (codF ⟨27, n, m, [x, y]⟩ = forkM 25 26 (codF x) (codF y)) := chid (by rw [codF_eq]; unfold codO; simp only [show ¬ ((27 : Int) = 1 ∨ (27 : Int) = 2) by decide, if_false, show ¬ (27 : Int) = 7 by decide, show ¬ (27 : Int) = 13 by decide, show ¬ (27 : Int) = 25 by decide, show ¬ (27 : Int) = 26 by decide, show ¬ (27 : Int) = 28 by decide, if_true]; rfl)
  rw [HE.out]
  have x0 := Y0.cell 0 _ rfl
  have x1 := Y0.cell 1 _ rfl
  have x2 := Y0.cell 2 _ rfl
  have x3 := Y0.cell 3 _ rfl
  have xl := Y0.lt
  clear hs h hp hz hC hK hcn Y0 YB hx_ hy hzx hzy hx sx sy k1 k2 hbl hbb
  go_enter Tryz.func28, Tryz.ntmps28
  go_wp2_with fail
  generalize hW : (w.alloc _) = W at *
  clear hW
  go_region_held3 (fun w' => w'.cell? ⟨w.heap.size, 3, none⟩ = some (.slice (some ⟨b, off, none⟩) 2 cap) ∧ (w'.cell? ⟨b, off, none⟩ = some (.int .i64 x.op) ∧ w'.cell? ⟨b, off + 1, none⟩ = some (.int .i64 x.n) ∧ w'.cell? ⟨b, off + 2, none⟩ = some (.int .i64 x.m) ∧ w'.cell? ⟨b, off + 3, none⟩ = some (.slice ax x.parts.length cx)) ∧ (w'.cell? ⟨b, off + 4, none⟩ = some (.int .i64 y.op) ∧ w'.cell? ⟨b, off + 4 + 1, none⟩ = some (.int .i64 y.n) ∧ w'.cell? ⟨b, off + 4 + 2, none⟩ = some (.int .i64 y.m) ∧ w'.cell? ⟨b, off + 4 + 3, none⟩ = some (.slice ay y.parts.length cy))) (simp [go_sem, *]) (first | (go_at_call 57; refine Calls.mono (HM.out _ (by exact drewN_below W _)) ?_; rintro e w2 ⟨rfl, g2⟩; have gg := fun p v hp hn hv => (Went.cell g2 (p := p) hp hn).trans (hv : W.cell? p = some v); replace x1 := gg _ _ xl nf x1; replace x3 := gg _ _ xl nf x3; replace yx0 := gg _ _ hbl' nb yx0; replace yx1 := gg _ _ hbl' nb yx1; replace yx2 := gg _ _ hbl' nb yx2; replace yx3 := gg _ _ hbl' nb yx3; replace yy0 := gg _ _ hbl' nb yy0; replace yy1 := gg _ _ hbl' nb yy1; replace yy2 := gg _ _ hbl' nb yy2; replace yy3 := gg _ _ hbl' nb yy3; replace xl : w.heap.size < w2.heap.size := Nat.lt_of_lt_of_le xl (by have hh := Went.size g2; exact hh); replace hbl' : b < w2.heap.size := Nat.lt_of_lt_of_le hbl' (by have hh := Went.size g2; exact hh); have HG := chid g2; clear g2 gg))
  all_goals go_wp2_with fail
  refine bodyPost_end (v := .tuple #[]) (by simp [results, Tryz.results28, go_sem, *]) rfl ?_
  exact ⟨rfl, Went.alloc HB.out.drew HG.out HB.out.drew.size⟩

set_option maxHeartbeats 2000000 in
set_option maxRecDepth 20000 in
theorem core_ladder (n m : Int) (P : List Co) (ih : ∀ x, x ∈ P → CodC x) (q : Nat) (hq : P.length = 2 * q + 2) : CodC ⟨32, n, m, P⟩ := by
  intro v bb C K vc vk w hs h hp hz hC hK
  have hcn : cnodes ⟨32, n, m, P⟩ = 1 + cnodesL P := cnodes_eq _
  obtain ⟨ad, cap, rfl, k1, k2⟩ := hs.parts.shape
  obtain ⟨Y0, YB⟩ := one_box w 30 [.int .i64 32, .int .i64 n, .int .i64 m, .slice ad P.length cap]
  have HB := chid YB
  rw [hcn] at hC hK
  obtain ⟨a, r, hP⟩ : ∃ a r, P = a :: r := by
    cases P with
    | nil => simp at hq
    | cons a r => exact ⟨a, r, rfl⟩
  have hcp : ∀ W, Below (w.alloc (.cells #[.int .i64 32, .int .i64 n, .int .i64 m, .slice ad P.length cap] 30)).heap.size (w.alloc (.cells #[.int .i64 32, .int .i64 n, .int .i64 m, .slice ad P.length cap] 30)) W → CAP (fun b => b < bb) W (.slice ad P.length cap) P := fun W hW => ((hs.next YB).next hW).parts
  have HM := chid (fun W (hW : Below (w.alloc (.cells #[.int .i64 32, .int .i64 n, .int .i64 m, .slice ad P.length cap] 30)).heap.size (w.alloc (.cells #[.int .i64 32, .int .i64 n, .int .i64 m, .slice ad P.length cap] 30)) W) => kladder_c P ih q hq (.slice ad P.length cap) bb C K vc vk W (hcp W hW) ((h.next YB).next hW) ((hp.next YB).next hW) (sM_parts hz) hC hK a r hP)
  have HE : Hid (codF ⟨32, n, m, P⟩ = thenM (codF a) (rungM (rgL r))) := chid (by
    rw [codF_eq]
    unfold codO
    simp only [show ¬ ((32 : Int) = 1 ∨ (32 : Int) = 2) by decide, show ¬ (32 : Int) = 7 by decide, show ¬ (32 : Int) = 13 by decide, show ¬ (32 : Int) = 25 by decide, show ¬ (32 : Int) = 26 by decide, show ¬ (32 : Int) = 28 by decide, show ¬ (32 : Int) = 27 by decide, if_false, if_true]
    rw [zip_cod, hP]
    rfl)
  rw [HE.out]
  have x0 := Y0.cell 0 _ rfl
  have x1 := Y0.cell 1 _ rfl
  have x2 := Y0.cell 2 _ rfl
  have x3 := Y0.cell 3 _ rfl
  have xl := Y0.lt
  have HPl : Hid (P = a :: r) := chid hP
  clear hs h hp hz hC hK hcn Y0 YB k1 k2 ih hq hcp hP
  go_enter Tryz.func28, Tryz.ntmps28
  go_wp2_with fail
  generalize hW : (w.alloc _) = W at *
  clear hW
  refine Calls.mono (HM.out W (Below.refl _ _)) ?_
  rintro e w2 ⟨rfl, g2⟩
  have HG := chid g2
  clear g2 x0 x1 x2 x3 xl
  go_wp2_with fail
  refine bodyPost_end (v := .tuple #[]) (by simp [results, Tryz.results28, go_sem, *]) rfl ?_
  exact ⟨rfl, Went.alloc HB.out HG.out HB.out.size⟩
set_option maxHeartbeats 2000000 in
set_option maxRecDepth 20000 in
theorem core_scale (n m : Int) (y : Co) (hy : CodC y) : CodC ⟨13, n, m, [y]⟩ := by
  intro v bb C K vc vk w hs h hp hz hC hK
  have hcn : cnodes ⟨13, n, m, [y]⟩ = 1 + cnodes y := by rw [cnodes_eq]; simp only [cnodesL_cons, cnodesL_nil]; omega
  have hzy := sM_parts hz y (by simp)
  obtain ⟨b, off, cap, rfl, k1, k2, hbl, hbb, hx⟩ := hs.parts.open (by show 0 < 1; decide)
  obtain ⟨Y0, YB⟩ := one_box w 30 [.int .i64 13, .int .i64 n, .int .i64 m, .slice (some ⟨b, off, none⟩) 1 cap]
  have HB := chid YB
  have H0 := chid (Wk.start (h.next YB))
  have hbl' := Nat.lt_of_lt_of_le hbl YB.size
  obtain ⟨ay, cy, sy, yy0, yy1, yy2, yy3⟩ := part_at hx hbl YB (i := 0) (x := y) rfl
  rw [show off + 0 * 4 = off by omega] at yy0 yy1 yy2 yy3
  rw [hcn] at hC hK
  obtain ⟨A, K1, hA⟩ : ∃ A K1, Hid (codF y K = (A, K1)) := ⟨_, _, chid rfl⟩
  have HL : Hid (A.length ≤ 6 * cnodes y ∧ K1.length ≤ K.length + 2 * cnodes y) := chid (by
    have h2 := cod_lb y K
    rw [hA.out] at h2
    exact h2)
  have HN := chid (And.intro hC hK)
  have HM := chid (fun W (hW : Below (w.alloc (.cells #[.int .i64 13, .int .i64 n, .int .i64 m, .slice (some ⟨b, off, none⟩) 1 cap] 30)).heap.size (w.alloc (.cells #[.int .i64 13, .int .i64 n, .int .i64 m, .slice (some ⟨b, off, none⟩) 1 cap] 30)) W) => hy (.slice ay y.parts.length cy) bb C K vc vk W (sy.next hW) ((h.next YB).next hW) ((hp.next YB).next hW) hzy (by omega) (by omega))
  have HNF : Hid (w.heap.size ∉ foot bb vc vk) := chid (fun hm => by have := (h.ge _ hm).2; omega)
  have HE : Hid (codF ⟨13, n, m, [y]⟩ = thenM (codF y) (scaM n m)) := chid (by rw [codF_eq]; unfold codO; simp only [show ¬ ((13 : Int) = 1 ∨ (13 : Int) = 2) by decide, show ¬ (13 : Int) = 7 by decide, if_false, if_true]; rfl)
  have HE2 : Hid (thenM (codF y) (scaM n m) K = (cat A [(11, (pairAt K1 n m : Nat))], pairK K1 n m)) := chid (by unfold thenM scaM; simp only [hA.out])
  rw [HE.out, HE2.out]
  have HY := chid Y0
  have x0 := Y0.cell 0 _ rfl
  have x1 := Y0.cell 1 _ rfl
  have x2 := Y0.cell 2 _ rfl
  have x3 := Y0.cell 3 _ rfl
  have xl := Y0.lt
  clear hs h hp hz hC hK hcn Y0 YB hy hzy hx sy k1 k2 hbl hbb
  go_enter Tryz.func28, Tryz.ntmps28
  go_wp2_with fail
  generalize hW : (w.alloc _) = W at *
  clear hW
  refine Calls.mono (HM.out W (Below.refl _ _)) ?_
  rintro e w2 ⟨rfl, g2⟩
  rw [hA.out] at g2
  obtain ⟨vc1, vk1, k1, -⟩ := H0.out.went g2
  have H1 := chid k1
  have Y2 := HY.out.turn k1.turn HNF.out
  clear g2 k1 x0 x1 x2 x3 xl yy0 yy1 yy2 yy3
  have x1 := Y2.cell 1 _ rfl
  have x2 := Y2.cell 2 _ rfl
  have xl := Y2.lt
  clear Y2
  go_wp2_with fail
  refine Calls.mono (kpair_c bb (cat C A) K1 vc1 vk1 n m w2 H1.out.bd (by have := HN.out; have := HL.out; omega)) ?_
  rintro e w3 ⟨rfl, g3⟩
  obtain ⟨vc3, vk3, k3, -⟩ := H1.out.went g3
  have H3 := chid k3
  clear g3 k3 x1 x2 xl
  go_wp2_with fail
  refine Calls.mono (H3.out.lay1 11 (pairAt K1 n m : Nat) (by rw [cat_len]; have := HN.out; have := HL.out; omega)) ?_
  rintro e w4 ⟨rfl, vc4, vk4, k4, -⟩
  have H4 := chid k4
  clear k4
  go_wp2_with fail
  refine bodyPost_end (v := .tuple #[]) (by simp [results, Tryz.results28, go_sem, *]) rfl ?_
  have g := Went.alloc HB.out H4.out.done HB.out.size
  rw [cat_ins _ 11 _ rfl, cat_cat] at g
  exact ⟨rfl, g⟩
theorem thenM_assoc (a b c : Mk) : thenM (thenM a b) c = thenM a (thenM b c) := by
  funext K
  simp only [thenM, cat_cat]
theorem nil_thenM (a : Mk) : thenM (allM []) a = a := by
  funext K
  show (cat [] (a K).1, (a K).2) = a K
  rw [nil_cat]
theorem thenM_nil (a : Mk) : thenM a (allM []) = a := by
  funext K
  show (cat (a K).1 [], (a K).2) = a K
  rw [cat_nil]
theorem allM_snoc (m : Mk) : ∀ l : List Mk, allM (l ++ [m]) = thenM (allM l) m
  | [] => by
    show thenM m (allM []) = _
    rw [thenM_nil, nil_thenM]
  | a :: r => by
    show thenM a (allM (r ++ [m])) = thenM (thenM a (allM r)) m
    rw [allM_snoc m r, thenM_assoc]
def restB (k : Nat) : Bool := decide (3 ≤ k) && decide (k ≤ 31) && k != 7 && k != 13 && k != 25 && k != 26 && k != 27 && k != 28
theorem poN_at : ∀ k : Fin 32, restB k.val = true → ([0, 0, 0, 2, 3, 4, 5, 0, 6, 7, 8, 9, 10, 0, 12, 13, 14, 15, 16, 17, 18, 19, 20, 21, 22, 0, 0, 0, 0, 29, 30, 31] : List Int)[k.val]? = some (plnI (k.val : Int)) ∧ jmpB (plnI (k.val : Int)) = false := by decide
theorem po_at {k : Nat} (h : restB k = true) : poT[k]? = some (.int .i64 (plnI k)) ∧ jmpB (plnI k) = false := by
  have hk : k < 32 := by
    unfold restB at h
    simp only [Bool.and_eq_true, decide_eq_true_eq] at h
    omega
  obtain ⟨h1, h2⟩ := poN_at ⟨k, hk⟩ h
  refine ⟨?_, h2⟩
  unfold poT
  rw [List.getElem?_map, h1]
  rfl
set_option maxHeartbeats 2000000 in
set_option maxRecDepth 20000 in
theorem core_rest (k : Nat) (hk : restB k = true) (n m : Int) (P : List Co) (ih : ∀ x, x ∈ P → CodC x) : CodC ⟨k, n, m, P⟩ := by
  intro v bb C K vc vk w hs h hp hz hC hK
  have hcn : cnodes ⟨k, n, m, P⟩ = 1 + cnodesL P := cnodes_eq _
  have hk' := hk
  unfold restB at hk'
  simp only [Bool.and_eq_true, decide_eq_true_eq, bne_iff_ne, ne_eq] at hk'
  obtain ⟨⟨⟨⟨⟨⟨⟨h3, h31⟩, h7⟩, h13⟩, h25⟩, h26⟩, h27⟩, h28⟩ := hk'
  obtain ⟨ad, cap, rfl, k1, k2⟩ := hs.parts.shape
  obtain ⟨Y0, YB⟩ := one_box w 30 [.int .i64 k, .int .i64 n, .int .i64 m, .slice ad P.length cap]
  have HB := chid YB
  have HY := chid Y0
  have H0 := chid (Wk.start (h.next YB))
  have HP := chid (hp.next YB)
  rw [hcn] at hC hK
  have HN := chid (And.intro hC hK)
  have HF : Hid (∀ i, i ∈ foot bb vc vk → bb ≤ i ∧ i < w.heap.size) := chid h.ge
  have HCA := chid ((hs.next YB).parts)
  have HI := chid ih
  have HZ : Hid (∀ x, x ∈ P → sM x ≠ 0) := chid (sM_parts hz)
  have HE : Hid (codF ⟨k, n, m, P⟩ = thenM (allM (P.map codF)) (insM (plnI k) n)) := chid (by rw [codF_eq]; exact codO_rest _ ⟨by show (k : Int) ≠ 1; omega, by show (k : Int) ≠ 2; omega, by show (k : Int) ≠ 7; omega, by show (k : Int) ≠ 13; omega, by show (k : Int) ≠ 25; omega, by show (k : Int) ≠ 26; omega, by show (k : Int) ≠ 28; omega, by show (k : Int) ≠ 27; omega, by show (k : Int) ≠ 32; omega⟩)
  have HJ := chid (po_at hk)
  rw [HE.out]
  obtain ⟨N, hN⟩ : ∃ N, Hid (N = P.length) := ⟨_, chid rfl⟩
  rw [← hN.out] at Y0 HY HB H0 HP HCA k1 ⊢
  have x0 := Y0.cell 0 _ rfl
  have x1 := Y0.cell 1 _ rfl
  have x2 := Y0.cell 2 _ rfl
  have x3 := Y0.cell 3 _ rfl
  have xl := Y0.lt
  have t1 : ((k : Int) == 1) = false := by simp; omega
  have t2 : ((k : Int) == 2) = false := by simp; omega
  have t3 : ((k : Int) == 7) = false := by simp; omega
  have t4 : ((k : Int) == 13) = false := by simp; omega
  have t5 : ((k : Int) == 25) = false := by simp; omega
  have t6 : ((k : Int) == 26) = false := by simp; omega
  have t7 : ((k : Int) == 28) = false := by simp; omega
  have t8 : ((k : Int) == 27) = false := by simp; omega
  have t9 : ((k : Int) == 32) = false := by simp; omega
  clear hs h hp hz hC hK hcn Y0 YB k1 k2 ih hk h7 h13 h25 h26 h27 h28
  have Hk3 : Hid (3 ≤ k ∧ k ≤ 31) := chid ⟨h3, h31⟩
  clear h3 h31
  go_enter Tryz.func28, Tryz.ntmps28
  go_wp2_with fail
  generalize hW : (w.alloc _) = W at *
  clear hW
  have HNF : Hid (∀ i, w.heap.size ≤ i → i ∉ foot bb vc vk) := chid (fun i hi hm => by have := (HF.out i hm).2; omega)
  have HSt : Hid (Wk bb (foot bb vc vk) W (cat C (allM ((P.take 0).map codF) K).1) (allM ((P.take 0).map codF) K).2 vc vk W) := chid (by
    have h := H0.out
    show Wk bb _ W (cat C []) K vc vk W
    rw [cat_nil]
    exact h)
  have hNs : N ≤ 900000 := by have := HN.out; have := length_cnodesL P; have := hN.out; omega
  clear x0 x1 x2 x3 xl
  go_loopw [11] (fun i wr => ∃ (j : Nat) (vd vl : Value), i = .int .i64 (j : Nat) ∧ j ≤ N ∧ Hid (Wk bb (foot bb vc vk) W (cat C (allM ((P.take j).map codF) K).1) (allM ((P.take j).map codF) K).2 vd vl wr)) (fun i _ => match i with | .int _ z => ((N : Int) - z).toNat | _ => 0)
  case atStart => exact ⟨0, vc, vk, rfl, Nat.zero_le _, HSt⟩
  case round =>
    obtain ⟨j, vd, vl, rfl, hj, HW⟩ := hrel
    by_cases hlt : j < N
    · have hlt' : (j : Int) < (N : Int) := by omega
      have hjl : j < P.length := by rw [← hN.out]; exact hlt
      have HLn : Hid ((allM ((P.take j).map codF) K).1.length ≤ 6 * cnodesL (P.take j) ∧ (allM ((P.take j).map codF) K).2.length ≤ K.length + 2 * cnodesL (P.take j) ∧ cnodesL P = cnodesL (P.take j) + (cnodes P[j] + cnodesL (P.drop (j + 1)))) := chid (by
        have h := allM_lb (P.take j) (fun x _ => cod_lb x) K
        refine ⟨h.1, h.2, ?_⟩
        conv => lhs; rw [← List.take_append_drop j P, cnodesL_append, List.drop_eq_getElem_cons hjl, cnodesL_cons])
      have HTk : Hid ((P.take (j + 1)).map codF = (P.take j).map codF ++ [codF P[j]]) := chid (by rw [List.take_succ_eq_append_getElem hjl, List.map_append]; rfl)
      obtain ⟨b, off, cap', hv, -, -, hbl, hbb, hx⟩ := HCA.out.open (by omega)
      simp only [Value.slice.injEq] at hv
      obtain ⟨rfl, -, rfl⟩ := hv
      obtain ⟨u, f, sx⟩ := hx j hjl
      obtain ⟨ax, cx, rfl, -, -⟩ := sx.parts.shape
      have hbn : b ∉ foot bb vc vk := fun hm => by have := (HF.out _ hm).1; omega
      have kp := fun q => cturn_cell HW.out.turn (j := q) hbl hbn
      obtain ⟨y0, y1, y2, y3⟩ := f.keep kp
      have lb : b < wr.heap.size := Nat.lt_of_lt_of_le hbl HW.out.turn.size
      have HIx := chid (And.intro (HI.out _ (List.getElem_mem hjl)) (HZ.out _ (List.getElem_mem hjl)))
      have HSx := chid (HW.out.core (fun i hi => (HF.out i hi).1) sx)
      have HPw := chid (HW.out.po (fun i hi => (HF.out i hi).1) HP.out)
      clear hx f sx kp hbl hbb hbn
      generalize P[j] = x at *
      have ba := (Below.refl wr.heap.size wr).alloc (Nat.le_refl _) (.cells #[.int .i64 x.op, .int .i64 x.n, .int .i64 x.m, .slice ax x.parts.length cx] 30)
      have HA := chid (HW.out.next ba)
      replace HSx := chid (HSx.out.next ba)
      replace HPw := chid (HPw.out.next ba)
      clear ba
      go_wp2_with fail
      refine Calls.mono (HIx.out.1 _ bb _ _ vd vl _ HSx.out HA.out.bd HPw.out HIx.out.2 (by rw [cat_len]; have := HLn.out; have := HN.out; omega) (by have := HLn.out; have := HN.out; omega)) ?_
      rintro e w2 ⟨rfl, g2⟩
      obtain ⟨vd2, vl2, k2, -⟩ := HA.out.went g2
      have H2 : Hid (Wk bb (foot bb vc vk) W (cat C (allM ((P.take (j + 1)).map codF) K).1) (allM ((P.take (j + 1)).map codF) K).2 vd2 vl2 w2) := chid (by
        rw [HTk.out, allM_snoc]
        show Wk bb _ W (cat C (cat _ _)) _ vd2 vl2 w2
        rw [← cat_cat]
        exact k2)
      clear g2 k2 HA HSx HPw HIx HTk HLn HW y0 y1 y2 y3 lb
      go_wp2_with fail
      go_roundw
      case rel => exact ⟨j + 1, vd2, vl2, by go_num, by omega, H2⟩
      case measure => simp; omega
    · have hlt' : ¬ (j : Int) < (N : Int) := by omega
      obtain rfl : j = N := by omega
      have Y := HY.out.turn HW.out.turn (HNF.out _ (Nat.le_refl _))
      have x0 := Y.cell 0 _ rfl
      have x1 := Y.cell 1 _ rfl
      have xl := Y.lt
      have HLn : Hid ((cat C (allM ((P.take j).map codF) K).1).length + 1 ≤ 1000000) := chid (by
        have h := (allM_lb (P.take j) (fun x _ => cod_lb x) K).1
        have h2 : P.take j = P := by rw [hN.out, List.take_length]
        rw [h2] at h ⊢
        rw [cat_len]
        have := HN.out
        omega)
      have hpo := HW.out.po (fun i hi => (HF.out i hi).1) HP.out
      obtain ⟨pk, hpk⟩ : ∃ pk, Hid (pk = plnI (k : Int)) := ⟨_, chid rfl⟩
      rw [← hpk.out] at HJ
      have p0 := hpo.at' k _ HJ.out.1
      have pl := hpo.lw
      have hk32 : (k : Int) < 32 := by have := Hk3.out; omega
      have HLy := chid (fun W' (hW' : Below wr.heap.size wr W') => (HW.out.next hW').lay1 pk n HLn.out)
      clear hpo Y
      go_wp2_with fail
      go_region_held3 (fun w' => (w'.cell? ⟨w.heap.size, 0, none⟩ = some (.int .i64 k) ∧ w'.cell? ⟨w.heap.size, 1, none⟩ = some (.int .i64 n)) ∧ w'.cell? ⟨0, k, none⟩ = some (.int .i64 pk)) (simp [go_sem, *]) (first | (go_at_call 52; refine Calls.mono (HLy.out wr.drew (Below.refl _ _).drew) ?_; rintro e w2 ⟨rfl, vd2, vl2, k2, s2⟩; have H2 := chid k2; have Y2 := HY.out.turn k2.turn (HNF.out _ (Nat.le_refl _)); have hp2 := k2.po (fun i hi => (HF.out i hi).1) HP.out; replace x0 := Y2.cell 0 _ rfl; replace x1 := Y2.cell 1 _ rfl; replace xl := Y2.lt; replace p0 := hp2.at' k _ HJ.out.1; replace pl := hp2.lw; clear Y2 hp2 k2 s2))
      all_goals go_wp2_with fail
      refine bodyPost_end (v := .tuple #[]) (by simp [results, Tryz.results28, go_sem, *]) rfl ?_
      have g := Went.alloc HB.out H2.out.done HB.out.size
      have h2 : P.take j = P := by rw [hN.out, List.take_length]
      rw [cat_ins _ pk n HJ.out.2, cat_cat, h2] at g
      rw [hpk.out] at g
      exact ⟨rfl, g⟩
theorem cod_all (t : Co) : CodC t := by
  induction t using Co.ind with
  | h t ih =>
    intro v bb C K vc vk w hs h hp hz hC hK
    suffices hh : CodC t from hh v bb C K vc vk w hs h hp hz hC hK
    clear hs h hp hC hK
    obtain ⟨k, hop, h1, h2, -, -, hs⟩ := shp_of hz
    obtain ⟨o, n, m, P⟩ := t
    have hop' : o = (k : Int) := hop
    subst hop'
    have hr : (3 ≤ k ∧ k ≤ 31 ∧ k ≠ 7 ∧ k ≠ 13 ∧ k ≠ 25 ∧ k ≠ 26 ∧ k ≠ 27 ∧ k ≠ 28) → CodC ⟨(k : Int), n, m, P⟩ := fun hk => core_rest k (by
      unfold restB
      simp only [Bool.and_eq_true, decide_eq_true_eq, bne_iff_ne, ne_eq]
      omega) n m P ih
    rcases hs with ⟨hk, hps⟩ | ⟨hk, -, x, hps, -⟩ | ⟨hk, -, x, hps, -⟩ | ⟨hk, -, x, y, hps, -⟩ | ⟨hk, -, x, y, hps, -⟩ | ⟨hk, -, x, y, hps, -⟩ | ⟨hk, -, x, y, z, hps, -⟩ | ⟨hk, -, x, hps, -⟩ | ⟨hk, -, hl⟩
    · by_cases h12 : k = 1 ∨ k = 2
      · exact core_num k (by omega) n m P
      · exact hr (by omega)
    · have e : P = [x] := hps
      subst e hk
      exact core_memo n m x (ih x (by simp))
    · by_cases h13 : k = 13
      · have e : P = [x] := hps
        subst e h13
        exact core_scale n m x (ih x (by simp))
      · exact hr (by omega)
    · exact hr (by omega)
    · have e : P = [x, y] := hps
      subst e
      rcases hk with rfl | rfl
      · exact core_and n m x y (ih x (by simp)) (ih y (by simp))
      · exact core_or n m x y (ih x (by simp)) (ih y (by simp))
    · have e : P = [x, y] := hps
      subst e hk
      exact core_either n m x y (ih x (by simp)) (ih y (by simp))
    · have e : P = [x, y, z] := hps
      subst e hk
      exact core_if n m x y z (ih x (by simp)) (ih y (by simp)) (ih z (by simp))
    · exact hr (by omega)
    · subst hk
      obtain ⟨l2, lm, -⟩ := hl
      rw [List.length_map] at l2 lm
      have l2' : 2 ≤ P.length := l2
      have lm' : P.length % 2 = 0 := lm
      exact core_ladder n m P ih (P.length / 2 - 1) (by omega)

theorem CSits.low {w w' : World} {bb : Nat} {t : Co} {v : Value} (h : CSits w t v) (hb : w.heap.size ≤ bb) (k : Below w.heap.size w w') : CSP (fun b => b < bb) w' t v :=
  (((CSP.ofSits t v h).weak (ok' := fun b => b < bb) (fun b h1 _ => by omega)).next k)
def gN (l : List (Co × Co)) : Nat := ((l.map gord).flatten).length
theorem gN_cons (g : Co × Co) (r : List (Co × Co)) : gN (g :: r) = cnodes g.1 + cnodes g.2 + gN r := by
  unfold gN gord cnodes
  simp only [List.map_cons, List.flatten_cons, List.length_append]
theorem planM_step (g : Co × Co) (r : List (Co × Co)) (f : Co) (C : List Ins) (K K1 K2 : List Int) (A B : List Ins) (hA : codF g.1 K = (A, K1)) (hB : codF g.2 K1 = (B, K2)) :
    cat C (planM (g :: r) f K).1 = cat ((cat (cat C A ++ [(24, 0)]) B).set (cat C A).length (24, (0 : Int) + ((cat (cat C A ++ [(24, 0)]) B).length : Int))) (planM r f K2).1 ∧ (planM (g :: r) f K).2 = (planM r f K2).2 := by
  have e : planM (g :: r) f K = (cat (cat A (cat (cat [((24 : Int), (0 : Int) + (((B.length + 1 + ([] : List Ins).length : Nat)) : Int))] B) [])) (planM r f K2).1, (planM r f K2).2) := by
    rw [planM]
    unfold thenM overM
    simp only [hA, hB]
  rw [e]
  refine ⟨?_, rfl⟩
  have h := over_laid (cat C A) B [] 24 0 rfl (fun x hx => by cases hx)
  rw [List.append_nil] at h
  rw [h]
  simp only [cat_cat]
set_option maxHeartbeats 4000000 in
set_option maxRecDepth 20000 in
theorem kplan_c (p : PlP) (v : PlV) (w0 : World) (hs : PlAt w0 p v) (bb : Nat) (C : List Ins) (K : List Int) (vc vk : Value) (w : World) (hk : Below w0.heap.size w0 w) (hbb : w0.heap.size ≤ bb) (h : Bd w bb C K vc vk) (hp : PoAt w bb)
    (hz : ∀ g, g ∈ p.gs → sM g.1 ≠ 0 ∧ sM g.2 ≠ 0) (hzf : sM p.fin ≠ 0) (hC : C.length + 8 * (gN p.gs + cnodes p.fin) ≤ 900000) (hK : K.length + 2 * (gN p.gs + cnodes p.fin) ≤ 900000) :
    Calls Tryz.prog 13 #[.pointer (some ⟨bb, 0, none⟩), plV p v] w fun e w' => e = .returned (.tuple #[]) ∧ Went bb (foot bb vc vk) w (cat C (planM p.gs p.fin K).1) (planM p.gs p.fin K).2 w' := by
  obtain ⟨ru, loc, wok, cok, me, wi, cr, gs, fi⟩ := hs
  obtain ⟨a1, c1, e1, -, -⟩ := RowsK.shape me
  obtain ⟨a2, c2, e2, -, -⟩ := RowsK.shape wi
  obtain ⟨a3, c3, e3, -, -⟩ := RowsK.shape cr
  obtain ⟨a4, c4, e4, q1, q2⟩ := gs.shape
  obtain ⟨a5, c5, e5, -, -⟩ := fi.parts.shape
  obtain ⟨me', wi', cr', gs', fi'⟩ := v
  simp only at e1 e2 e3 e4 e5
  subst e1 e2 e3 e4 e5
  obtain ⟨N, hN⟩ : ∃ N, Hid (N = p.gs.length) := ⟨_, chid rfl⟩
  rw [← hN.out] at q1 gs ⊢
  obtain ⟨Y0, YB⟩ := one_box w 32 (plL p ⟨.slice a1 p.mets.length c1, .slice a2 p.wins.length c2, .slice a3 p.crons.length c3, .slice a4 N c4, .slice a5 p.fin.parts.length c5⟩)
  have HY := chid Y0
  have HB := chid YB
  have H0 := chid (Wk.start (h.next YB))
  have HP := chid (hp.next YB)
  have HF : Hid (∀ i, i ∈ foot bb vc vk → bb ≤ i ∧ i < w.heap.size) := chid h.ge
  have HN := chid (And.intro hC hK)
  have HZ := chid (And.intro hz hzf)
  have HK0 := chid (cbelow_on hk YB hk.size)
  have HG := chid gs
  have HFi := chid fi
  have HBB := chid hbb
  obtain ⟨T, KT, hT⟩ : ∃ T KT, Hid (cat C (planM p.gs p.fin K).1 = T ∧ (planM p.gs p.fin K).2 = KT) := ⟨_, _, chid ⟨rfl, rfl⟩⟩
  rw [hT.out.1, hT.out.2]
  have x9 := Y0.cell 9 _ rfl
  have xl := Y0.lt
  clear ru loc wok cok me wi cr gs fi h hp hz hzf hC hK hk hbb Y0 YB
  go_enter Tryz.func13, Tryz.ntmps13
  go_wp2_with fail
  generalize hW : (w.alloc _) = W at *
  clear hW
  have HNF : Hid (∀ i, w.heap.size ≤ i → i ∉ foot bb vc vk) := chid (fun i hi hm => by have := (HF.out i hm).2; omega)
  have HSt : Hid (cat C (planM (p.gs.drop 0) p.fin K).1 = T ∧ (planM (p.gs.drop 0) p.fin K).2 = KT) := chid hT.out
  have HC0 : Hid (C.length + 8 * (gN (p.gs.drop 0) + cnodes p.fin) ≤ 900000 ∧ K.length + 2 * (gN (p.gs.drop 0) + cnodes p.fin) ≤ 900000) := chid HN.out
  have hNs : N ≤ 900000 := by
    have h1 := HN.out.1
    have h2 : p.gs.length ≤ gN p.gs := by
      clear h1 HC0 HSt HG HFi HN HZ hN hT HY
      generalize p.gs = l
      induction l with
      | nil => simp
      | cons g r ih => rw [gN_cons, List.length_cons]; have := cnodes_pos g.1; omega
    have := hN.out
    omega
  clear hT x9 xl
  go_loopw [10] (fun i wr => ∃ (j : Nat) (D : List Ins) (L : List Int) (vd vl : Value), i = .int .i64 (j : Nat) ∧ j ≤ N ∧ Hid (Wk bb (foot bb vc vk) W D L vd vl wr) ∧ Hid (cat D (planM (p.gs.drop j) p.fin L).1 = T ∧ (planM (p.gs.drop j) p.fin L).2 = KT) ∧ Hid (D.length + 8 * (gN (p.gs.drop j) + cnodes p.fin) ≤ 900000 ∧ L.length + 2 * (gN (p.gs.drop j) + cnodes p.fin) ≤ 900000)) (fun i _ => match i with | .int _ z => ((N : Int) - z).toNat | _ => 0)
  case atStart => exact ⟨0, C, K, vc, vk, rfl, Nat.zero_le _, H0, HSt, HC0⟩
  case round =>
    obtain ⟨j, D, L, vd, vl, rfl, hj, HW, HT, HC⟩ := hrel
    by_cases hlt : j < N
    · have hlt' : (j : Int) < (N : Int) := by omega
      have hjl : j < p.gs.length := by rw [← hN.out]; exact hlt
      have hD : p.gs.drop j = p.gs[j] :: p.gs.drop (j + 1) := List.drop_eq_getElem_cons hjl
      obtain ⟨b, off, cap', hv, -, -, hbl, hx⟩ := HG.out.open (by omega)
      simp only [Value.slice.injEq] at hv
      obtain ⟨rfl, -, rfl⟩ := hv
      obtain ⟨u1, u2, f1, f2, s1, s2⟩ := hx j hjl
      obtain ⟨ax, cx, rfl, -, -⟩ := s1.parts.shape
      obtain ⟨ay, cy, rfl, -, -⟩ := s2.parts.shape
      have HBw : Hid (Below w0.heap.size w0 wr) := chid (HK0.out.trans (HW.out.turn.below (fun k hk => by have := (HF.out k hk).1; have := HBB.out; omega) HK0.out.size))
      have kp := fun q => HBw.out.cell (p := ⟨b, q, none⟩) hbl
      obtain ⟨y0, y1, y2, y3⟩ := f1.keep kp
      obtain ⟨y4, y5, y6, y7⟩ := f2.keep kp
      have lb : b < wr.heap.size := Nat.lt_of_lt_of_le hbl HBw.out.size
      have HIx := chid (And.intro (HZ.out.1 _ (List.getElem_mem hjl)) (And.intro (s1.low HBB.out HBw.out) (s2.low HBB.out HBw.out)))
      have HPw := chid (HW.out.po (fun i hi => (HF.out i hi).1) HP.out)
      have HDr := chid hD
      clear hx f1 f2 s1 s2 kp hbl hD
      generalize p.gs[j] = g at *
      obtain ⟨A, K1, hA⟩ : ∃ A K1, Hid (codF g.1 L = (A, K1)) := ⟨_, _, chid rfl⟩
      obtain ⟨B, K2, hB⟩ : ∃ B K2, Hid (codF g.2 K1 = (B, K2)) := ⟨_, _, chid rfl⟩
      have HLn : Hid (A.length ≤ 6 * cnodes g.1 ∧ K1.length ≤ L.length + 2 * cnodes g.1 ∧ B.length ≤ 6 * cnodes g.2 ∧ K2.length ≤ K1.length + 2 * cnodes g.2 ∧ gN (p.gs.drop j) = cnodes g.1 + cnodes g.2 + gN (p.gs.drop (j + 1)) ∧ 1 ≤ cnodes g.1) := chid (by
        have h1 := cod_lb g.1 L
        have h2 := cod_lb g.2 K1
        rw [hA.out] at h1
        rw [hB.out] at h2
        exact ⟨h1.1, h1.2, h2.1, h2.2, by rw [HDr.out, gN_cons], cnodes_pos _⟩)
      have HT2 : Hid (cat ((cat (cat D A ++ [(24, 0)]) B).set (cat D A).length (24, (0 : Int) + ((cat (cat D A ++ [(24, 0)]) B).length : Int))) (planM (p.gs.drop (j + 1)) p.fin K2).1 = T ∧ (planM (p.gs.drop (j + 1)) p.fin K2).2 = KT) := chid (by
        have h1 := planM_step g (p.gs.drop (j + 1)) p.fin D L K1 K2 A B hA.out hB.out
        have h2 := HT.out
        rw [HDr.out] at h2
        exact ⟨h1.1.symm.trans h2.1, h1.2.symm.trans h2.2⟩)
      obtain ⟨Z0, ZB⟩ := one_box wr 66 [.int .i64 g.1.op, .int .i64 g.1.n, .int .i64 g.1.m, .slice ax g.1.parts.length cx, .int .i64 g.2.op, .int .i64 g.2.n, .int .i64 g.2.m, .slice ay g.2.parts.length cy]
      have HZ0 := chid Z0
      have HZB := chid ZB
      have HA := chid (Wk.start (HW.out.next ZB).bd)
      have HFr : Hid (∀ i, i ∈ foot bb vd vl → bb ≤ i ∧ i < wr.heap.size) := chid HW.out.bd.ge
      replace HPw := chid (HPw.out.next ZB)
      have HSx := chid (And.intro (HIx.out.2.1.next ZB) (HIx.out.2.2.next ZB))
      clear Z0 ZB HT
      go_wp2_with fail
      generalize hX : (wr.alloc _) = X at *
      clear hX
      refine Calls.mono (cod_all g.1 _ bb D L vd vl X HSx.out.1 HA.out.bd HPw.out HIx.out.1.1 (by have := HC.out; have := HLn.out; omega) (by have := HC.out; have := HLn.out; omega)) ?_
      rintro e w2 ⟨rfl, g2⟩
      rw [hA.out] at g2
      obtain ⟨vd2, vl2, k2, -⟩ := HA.out.went g2
      have H2 := chid k2
      clear g2 k2 y0 y1 y2 y3 y4 y5 y6 y7 lb
      go_wp2_with fail
      refine Calls.mono (jump_c bb (cat D A) K1 vd2 vl2 24 0 w2 H2.out.bd (by rw [cat_len]; have := HC.out; have := HLn.out; omega)) ?_
      intro e w3 g3
      obtain ⟨rfl, vd3, vl3, k3, -, o3⟩ := H2.out.jumped g3
      have H3 := chid k3
      have O3 := chid o3
      have b3 := HZ0.out.turn k3.turn (fun hm => by have := (HFr.out _ hm).2; omega)
      have d4 := b3.cell 4 _ rfl
      have d5 := b3.cell 5 _ rfl
      have d6 := b3.cell 6 _ rfl
      have d7 := b3.cell 7 _ rfl
      have dl := b3.lt
      clear g3 k3 o3 b3
      go_wp2_with fail
      refine Calls.mono (cod_all g.2 _ bb _ K1 vd3 vl3 w3 (H3.out.core (fun i hi => (HFr.out i hi).1) HSx.out.2) H3.out.bd (H3.out.po (fun i hi => (HFr.out i hi).1) HPw.out) HIx.out.1.2 (by rw [List.length_append, cat_len, List.length_singleton]; have := HC.out; have := HLn.out; omega) (by have := HC.out; have := HLn.out; omega)) ?_
      rintro e w4 ⟨rfl, g4⟩
      rw [hB.out] at g4
      obtain ⟨vd4, vl4, k4, s4⟩ := H3.out.went g4
      have H4 := chid k4
      have O4 := chid (s4 _ _ _ O3.out)
      clear g4 k4 s4 O3 d4 d5 d6 d7 dl
      go_wp2_with fail
      refine Calls.mono (fill_c w2.heap.size bb _ K2 vd4 vl4 0 (cat D A).length (24, 0) w4 H4.out.bd O4.out.jm (cat_at (snoc_at _ _)) (small_64 (by simp only [cat_len, List.length_append, List.length_singleton]; have := HC.out; have := HLn.out; omega)) O4.out.far) ?_
      rintro e w5 ⟨rfl, g5⟩
      obtain ⟨vd5, vl5, k5, -⟩ := H4.out.went g5
      obtain ⟨vd6, vl6, k6, -⟩ := HW.out.went (Went.alloc HZB.out k5.done HZB.out.size)
      have H6 := chid k6
      have HC6 : Hid (((cat (cat D A ++ [(24, 0)]) B).set (cat D A).length (24, (0 : Int) + ((cat (cat D A ++ [(24, 0)]) B).length : Int))).length + 8 * (gN (p.gs.drop (j + 1)) + cnodes p.fin) ≤ 900000 ∧ K2.length + 2 * (gN (p.gs.drop (j + 1)) + cnodes p.fin) ≤ 900000) := chid (by
        have := HC.out
        have := HLn.out
        simp only [List.length_set, cat_len, List.length_append, List.length_singleton]
        omega)
      clear g5 k5 k6 O4
      go_wp2_with fail
      go_roundw
      case rel => exact ⟨j + 1, _, _, vd6, vl6, by go_num, by omega, H6, HT2, HC6⟩
      case measure => simp; omega
    · have hlt' : ¬ (j : Int) < (N : Int) := by omega
      obtain rfl : j = N := by omega
      have HD : Hid (p.gs.drop j = []) := chid (List.drop_eq_nil_of_le (by have := hN.out; omega))
      have HBw : Hid (Below w0.heap.size w0 wr) := chid (HK0.out.trans (HW.out.turn.below (fun k hk => by have := (HF.out k hk).1; have := HBB.out; omega) HK0.out.size))
      have HSx := chid (HFi.out.low HBB.out HBw.out)
      have HPw := chid (HW.out.po (fun i hi => (HF.out i hi).1) HP.out)
      have Y := HY.out.turn HW.out.turn (HNF.out _ (Nat.le_refl _))
      have x0 := Y.cell 10 _ rfl
      have x1 := Y.cell 11 _ rfl
      have x2 := Y.cell 12 _ rfl
      have x3 := Y.cell 13 _ rfl
      have xl := Y.lt
      clear Y
      go_wp2_with fail
      refine Calls.mono (cod_all p.fin _ bb D L vd vl wr HSx.out HW.out.bd HPw.out HZ.out.2 (by have := HC.out; omega) (by have := HC.out; omega)) ?_
      rintro e w2 ⟨rfl, g2⟩
      obtain ⟨vd2, vl2, k2, -⟩ := HW.out.went g2
      have H2 := chid k2
      clear g2 k2 x0 x1 x2 x3 xl
      go_wp2_with fail
      refine bodyPost_end (v := .tuple #[]) (by simp [results, Tryz.results13, go_sem, *]) rfl ?_
      have g := Went.alloc HB.out H2.out.done HB.out.size
      have h := HT.out
      rw [HD.out] at h
      have h1 : cat D (codF p.fin L).1 = T := h.1
      have h2 : (codF p.fin L).2 = KT := h.2
      rw [h1, h2] at g
      exact ⟨rfl, g⟩
end Go.Proofs.YtigldebdljfnbaaGreatDoor

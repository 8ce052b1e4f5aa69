import Derived.Test.YtigldebdljfnbaaDoorEaR
import Derived.Test.YtigldebdljfnbaaDoorNbP
namespace Go.Proofs.YtigldebdljfnbaaDoor
open Go.RowKit

theorem elow {w w' : World} {bb : Nat} {t : Co} {v : Value} (h : CSits w t v) (hb : w.heap.size ≤ bb) (k : Below w.heap.size w w') : CSP (fun b => b < bb) w' t v :=
  (((CSP.ofSits t v h).weak (ok' := fun b => b < bb) (fun b h1 _ => by omega)).next k)
theorem Env.emit {Y : List (Nat × List Value)} (w1 : World) (hY : ∀ p, p ∈ Y → Box w1 p.1 p.2) : Env w1.heap.size (mft w1.heap.size (.slice none 0 0)) (w1.alloc (.cells #[.slice none 0 0] 53)) Y [([], .slice none 0 0)] [] (.slice none 0 0) (w1.alloc (.cells #[.slice none 0 0] 53)) := by
  have hm : Mkr (w1.alloc (.cells #[.slice none 0 0] 53)) w1.heap.size [] (.slice none 0 0) := ⟨Box.new w1 [.slice none 0 0] 53, World.ownsRow_nil _ _ _ _⟩
  refine ⟨Mw.start hm, fun i hi => (hm.ge i hi).1, fun p hp => ⟨(hY p hp).next (ebel _ _), fun h => ?_⟩, fun q hq => ?_, fun p _ q hq => ?_⟩
  · have h1 := (hm.ge _ h).1
    have h2 := (hY p hp).lt
    omega
  · rw [List.mem_singleton.1 hq]
    exact World.ownsRow_nil _ _ _ _
  · rw [List.mem_singleton.1 hq]
    simp [Value.ownBlock]
theorem act_all (wn cn : Int) (nl : Nat) (hnl : nl ≤ 1000000) : ∀ t : Co, csort ladF wn cn nl t = 3 → ActD t := by
  refine Co.ind fun t ih hz => ?_
  obtain ⟨k, hop, h1, h2, hb, hp, hs⟩ := shp_of (show csort ladF wn cn nl t ≠ 0 by omega)
  have hlf := leaf_sort (show csort ladF wn cn nl t ≠ 0 by omega) hop
  generalize csort ladF wn cn nl t = s at hz hs hlf
  obtain ⟨o, n, m, P⟩ := t
  have hop' : o = (k : Int) := hop
  subst hop'
  rcases hs with ⟨hk, hps⟩ | ⟨hk, hs, -⟩ | ⟨hk, hs, -⟩ | ⟨hk, hs, -⟩ | ⟨hk, hs, -⟩ | ⟨hk, hs, -⟩ | ⟨hk, hs, -⟩ | ⟨hk, hs, x, hps, hx⟩ | ⟨hk, hs, hl⟩
  · have e : P = [] := hps
    subst e
    rcases hlf hk hps with ⟨rfl, -⟩ | ⟨-, h6⟩
    · exact act_hold n m (fit_zero (by omega) hb)
    · omega
  · omega
  · split at hs <;> omega
  · split at hs <;> omega
  · omega
  · omega
  · omega
  · have e : P = [x] := hps
    subst e
    have hn := fit_zero (wn := wn) (cn := cn) (ln := nl) (by omega) hb
    rcases hk with rfl | rfl
    · exact act_30 wn cn nl hnl n m x hn (val_all wn cn nl hnl x (.inl hx)) (.inl hx)
    · exact act_31 wn cn nl hnl n m x hn (val_all wn cn nl hnl x (.inl hx)) (.inl hx)
  · subst hk
    obtain ⟨l2, lm, l0, l3, lst⟩ := hl
    rw [List.length_map] at l2 lm l3 lst
    have l2' : 2 ≤ P.length := l2
    have lm' : P.length % 2 = 0 := lm
    have hg : ∀ (j : Nat) (x : Co), P[j]? = some x → (P.map (csort ladF wn cn nl)).getD j 0 = csort ladF wn cn nl x := fun j x hx => by simp [List.getD, hx]
    refine act_ladder wn cn nl hnl n m P (P.length / 2 - 1) (by omega) hp (fun x hx => ?_) (fun j x hx hj1 hj => ?_) (fun j x hx hj1 hj => ?_)
    · have h9 := hg 0 x hx
      have h8 : (P.map (csort ladF wn cn nl)).getD 0 0 = 1 := l0
      rw [h9] at h8
      exact ⟨val_all wn cn nl hnl x (.inl h8), .inl h8⟩
    · have h9 := hg j x hx
      have h3 : csort ladF wn cn nl x = 3 := by
        rcases hj with hj | hj
        · obtain ⟨i, rfl⟩ : ∃ i, j = i + 1 := ⟨j - 1, by omega⟩
          have h8 := (lst i (by omega) (by have := (List.getElem?_eq_some_iff.1 hx).1; show i + 1 < P.length; omega)).2.1
          rw [← h9]
          exact h8
        · have h8 : (P.map (csort ladF wn cn nl)).getD (P.length - 1) 0 = 3 := l3
          rw [show P.length - 1 = j by omega, h9] at h8
          exact h8
      exact ⟨ih x (List.mem_of_getElem? hx) h3, h3⟩
    · have h8 : (P.getD j co0).op = 1 := (lst j hj1 hj).1
      have h9 : P.getD j co0 = x := by simp [List.getD, hx]
      rw [h9] at h8
      exact h8

theorem eplan_step (g : Co × Co) (r : List (Co × Co)) (f : Co) (D : List Ins) (K K1 K2 : List Int) (A B : List Ins) (hA : codF g.1 K = (A, K1)) (hB : codF g.2 K1 = (B, K2)) :
    cat D (planM (g :: r) f K).1 = cat (cat (cat (cat D A) [(24, (1 : Int) + (B.length : Int))]) B) (planM r f K2).1 ∧ (planM (g :: r) f K).2 = (planM r f K2).2 := by
  have e : planM (g :: r) f K = (cat (cat A (cat (cat [((24 : Int), (0 : Int) + (((B.length + 1 + ([] : List Ins).length : Nat)) : Int))] B) [])) (planM r f K2).1, (planM r f K2).2) := by
    rw [planM]
    unfold thenM overM
    simp only [hA, hB]
  rw [e]
  refine ⟨?_, rfl⟩
  have h2 : (0 : Int) + ((B.length + 1 + ([] : List Ins).length : Nat) : Int) = 1 + (B.length : Int) := by
    simp only [List.length_nil]
    omega
  rw [h2, cat_nil]
  simp only [cat_cat]
theorem estep_of {mb : Nat} {F : List Nat} {W : World} {L : List (Nat × List Value)} {PS : List (List Ins × Value)} {K K2 : List Int} {vk : Value} {X : World} {f : Nat} {args : Array Value} {C : List Ins} {hh : Nat} (h : Env mb F W L PS K vk X) (hc : Calls Tryd.prog f args X fun e u => Mwent mb (mft mb vk) X K2 C hh e u) (n : Nat) (hn : n = C.length) :
    Calls Tryd.prog f args X fun e u => ∃ v, e = .returned v ∧ ∃ v2 aa cc, v = .agg #[.slice aa n cc, .int .i64 (hh : Nat)] ∧ Env mb F W L ((C, .slice aa n cc) :: PS) K2 v2 u := by
  refine hc.mono ?_
  intro e u g
  obtain ⟨v2, aa, cc, rfl, E⟩ := h.callN g n hn
  exact ⟨_, rfl, v2, aa, cc, rfl, E⟩
theorem pc_in {lo : Nat} {w : World} {C : List Ins} {v : Value} (h : PcR lo w C v) : RowsK w v C.length 2 (fun i => [.int .i64 (C.getD i in0).1, .int .i64 (C.getD i in0).2]) :=
  rows_of_box h (fun i hi j x hj => by
    have hj2 : j = 0 ∨ j = 1 := by have := (List.getElem?_eq_some_iff.1 hj).1; simp at this; omega
    have hg : C[i]? = some (C.getD i in0) := by simp [List.getD, hi]
    rcases hj2 with rfl | rfl
    · simp only [List.getElem?_cons_zero, Option.some.injEq] at hj
      subst hj
      exact (flI_at C i _ hg).1
    · simp only [List.getElem?_cons_succ, List.getElem?_cons_zero, Option.some.injEq] at hj
      subst hj
      exact (flI_at C i _ hg).2)
theorem mk_in {w : World} {mb : Nat} {K : List Int} {vk : Value} (h : Mkr w mb K vk) : RowsK w vk K.length 1 (fun i => [.int .i64 (K.getD i 0)]) :=
  rows_of_box h.cons (fun i hi j x hj => by
    have hj0 : j = 0 := by have := (List.getElem?_eq_some_iff.1 hj).1; simp at this; omega
    subst hj0
    simp only [List.getElem?_cons_zero, Option.some.injEq] at hj
    subst hj
    simp [flK, hi, List.getD])
def RemitC (p : PlP) (R : PgP × Int) (v : PlV) (w : World) : Prop := Calls Tryd.prog 6 #[plV p v] w fun e w' => ∃ u, e = .returned (.tuple #[pgV R.1 u, .int .i64 R.2]) ∧ PgRd w' R.1 u ∧ Below w.heap.size w w'
set_option maxHeartbeats 16000000 in
set_option maxRecDepth 20000 in
theorem remit_c (q : Co → Co → Bool) (p : PlP) (v : PlV) (w : World) (hs : PlAt w p v) (hm : C64 p.mets.length)
    (HFm : ∀ W, Below w.heap.size w W → Calls Tryd.prog 10 #[plV p v] W fun e w' => e = .returned (.bool (formedP q p)) ∧ Below W.heap.size W w') : RemitC p (emitF q p) v w := by
  unfold RemitC
  obtain ⟨a1, c1, a2, c2, a3, c3, a4, c4, a5, c5, rfl, g1, g2, g3, g4⟩ := hs.shapes
  have HFo := chid HFm
  have HPl := chid hs
  have HM := chid hm
  obtain ⟨N, hN⟩ : ∃ N, Hid (N = p.gs.length) := ⟨_, chid rfl⟩
  rw [← hN.out] at HFo HPl g4 ⊢
  obtain ⟨Y0, Y1, Y2⟩ := two_boxes w 32 38 (plL p ⟨.slice a1 p.mets.length c1, .slice a2 p.wins.length c2, .slice a3 p.crons.length c3, .slice a4 N c4, .slice a5 p.fin.parts.length c5⟩) (pgL pg0 ⟨.slice none 0 0, .slice none 0 0, .slice none 0 0, .slice none 0 0⟩)
  have HY0 := chid Y0
  have HY1 := chid Y1
  have B0 := chid Y2
  clear hs Y0 Y1 Y2 g1 g2 g3 hm HFm
  cases hf : formedP q p with
  | false =>
    have hr : Hid (emitF q p = (pg0, 1)) := chid (by unfold emitF; rw [if_pos hf])
    rw [hr.out]
    rw [hf] at HFo
    clear hf
    have x0 := HY0.out.cell 0 _ rfl
    have x1 := HY0.out.cell 1 _ rfl
    have x2 := HY0.out.cell 2 _ rfl
    have x3 := HY0.out.cell 3 _ rfl
    have x4 := HY0.out.cell 4 _ rfl
    have x5 := HY0.out.cell 5 _ rfl
    have x6 := HY0.out.cell 6 _ rfl
    have x7 := HY0.out.cell 7 _ rfl
    have x8 := HY0.out.cell 8 _ rfl
    have x9 := HY0.out.cell 9 _ rfl
    have x10 := HY0.out.cell 10 _ rfl
    have x11 := HY0.out.cell 11 _ rfl
    have x12 := HY0.out.cell 12 _ rfl
    have x13 := HY0.out.cell 13 _ rfl
    have xl := HY0.out.lt
    go_enter Tryd.func6, Tryd.ntmps6
    go_wp2_with fail
    refine Calls.mono (HFo.out _ B0.out) ?_
    rintro e w1 ⟨rfl, b1⟩
    have B1 := chid (cbelow_on B0.out b1 B0.out.size)
    replace HY1 := chid (HY1.out.next b1)
    clear b1 HFo HY0 x0 x1 x2 x3 x4 x5 x6 x7 x8 x9 x10 x11 x12 x13 xl
    have y0 := HY1.out.cell 0 _ rfl
    have g0 := HY1.out.free 0 (by simp)
    have y1 := HY1.out.cell 1 _ rfl
    have g1 := HY1.out.free 1 (by simp)
    have y2 := HY1.out.cell 2 _ rfl
    have g2 := HY1.out.free 2 (by simp)
    have y3 := HY1.out.cell 3 _ rfl
    have g3 := HY1.out.free 3 (by simp)
    have y4 := HY1.out.cell 4 _ rfl
    have g4 := HY1.out.free 4 (by simp)
    have y5 := HY1.out.cell 5 _ rfl
    have g5 := HY1.out.free 5 (by simp)
    have y6 := HY1.out.cell 6 _ rfl
    have g6 := HY1.out.free 6 (by simp)
    have y7 := HY1.out.cell 7 _ rfl
    have g7 := HY1.out.free 7 (by simp)
    have y8 := HY1.out.cell 8 _ rfl
    have g8 := HY1.out.free 8 (by simp)
    have y9 := HY1.out.cell 9 _ rfl
    have g9 := HY1.out.free 9 (by simp)
    have y10 := HY1.out.cell 10 _ rfl
    have g10 := HY1.out.free 10 (by simp)
    have y11 := HY1.out.cell 11 _ rfl
    have g11 := HY1.out.free 11 (by simp)
    have yl := HY1.out.lt
    go_wp2_with fail
    refine bodyPost_ret (v := .tuple #[pgV pg0 ⟨.slice none 0 0, .slice none 0 0, .slice none 0 0, .slice none 0 0⟩, .int .i64 1]) (by simp [results, Tryd.results6, go_sem, pg0, *]) rfl ?_
    exact ⟨_, rfl, (pg0_at _ 0).rd, below_one B1.out (set12_turn w1 _ _ _ _ _ _ _ _ _ _ _ _ _) (by omega)⟩
  | true =>
    obtain ⟨R, hR⟩ : ∃ R, Hid (R = emitF q p) := ⟨_, chid rfl⟩
    have HR : Hid (R = if largeB (progF p) = true then (pg0, 14) else (progF p, 0)) := chid (by rw [hR.out]; unfold emitF; rw [if_neg (by rw [hf]; decide)])
    rw [← hR.out]
    have HFf : Hid (gN p.gs + cnodes p.fin ≤ 4096 ∧ 0 ≤ p.loc ∧ p.loc ≤ 256 ∧ (∀ g, g ∈ p.gs → soP p g.1 = 2 ∧ soP p g.2 = 3) ∧ soP p p.fin = 3) := chid (by
      unfold formedP at hf
      simp only [Bool.and_eq_true] at hf
      obtain ⟨⟨⟨⟨⟨h1, h2⟩, h3⟩, h4⟩, h5⟩, h6⟩ := hf
      have h0 := (of_decide_eq_true h1).2.2.2
      unfold sortsB at h5
      simp only [Bool.and_eq_true, List.all_eq_true, decide_eq_true_eq] at h5
      refine ⟨?_, h0.1, h0.2, h5.1, h5.2⟩
      rw [← plord_gN]
      exact of_decide_eq_true h2)
    obtain ⟨nl, hnl⟩ : ∃ nl : Nat, Hid (p.loc = (nl : Int) ∧ nl ≤ 1000000) := ⟨p.loc.toNat, chid (by have := HFf.out; omega)⟩
    have HVa := chid (fun (t : Co) (h : soP p t = 1 ∨ soP p t = 2) => val_all p.wins.length p.crons.length nl hnl.out.2 t (by rw [← hnl.out.1]; exact h))
    have HAa := chid (fun (t : Co) (h : soP p t = 3) => act_all p.wins.length p.crons.length nl hnl.out.2 t (by rw [← hnl.out.1]; exact h))
    have HJa := chid (fun (t : Co) (K : List Int) (h : soP p t ≠ 0) (hc : 8 * cnodes t ≤ 800000) => cod_jb (wn := p.wins.length) (cn := p.crons.length) (nl := nl) (t := t) (by rw [← hnl.out.1]; exact h) hnl.out.2 hc K)
    rw [hf] at HFo
    clear hf hR
    have x0 := HY0.out.cell 0 _ rfl
    have x1 := HY0.out.cell 1 _ rfl
    have x2 := HY0.out.cell 2 _ rfl
    have x3 := HY0.out.cell 3 _ rfl
    have x4 := HY0.out.cell 4 _ rfl
    have x5 := HY0.out.cell 5 _ rfl
    have x6 := HY0.out.cell 6 _ rfl
    have x7 := HY0.out.cell 7 _ rfl
    have x8 := HY0.out.cell 8 _ rfl
    have x9 := HY0.out.cell 9 _ rfl
    have x10 := HY0.out.cell 10 _ rfl
    have x11 := HY0.out.cell 11 _ rfl
    have x12 := HY0.out.cell 12 _ rfl
    have x13 := HY0.out.cell 13 _ rfl
    have xl := HY0.out.lt
    go_enter Tryd.func6, Tryd.ntmps6
    go_wp2_with fail
    refine Calls.mono (HFo.out _ B0.out) ?_
    rintro e w1 ⟨rfl, b1⟩
    have B1 := chid (cbelow_on B0.out b1 B0.out.size)
    replace HY0 := chid (HY0.out.next b1)
    replace HY1 := chid (HY1.out.next b1)
    clear b1 HFo B0 x0 x1 x2 x3 x4 x5 x6 x7 x8 x9 x10 x11 x12 x13 xl
    have hmb1 : Hid (w.heap.size + 1 < w1.heap.size) := chid HY1.out.lt
    obtain ⟨mb, hmb⟩ : ∃ mb, mb = w1.heap.size := ⟨_, rfl⟩
    have EW := Env.emit (Y := [(w.heap.size, (plL p ⟨.slice a1 p.mets.length c1, .slice a2 p.wins.length c2, .slice a3 p.crons.length c3, .slice a4 N c4, .slice a5 p.fin.parts.length c5⟩)), (w.heap.size + 1, (pgL pg0 ⟨.slice none 0 0, .slice none 0 0, .slice none 0 0, .slice none 0 0⟩))]) w1 (fun p hp => by
      simp only [List.mem_cons, List.not_mem_nil, or_false] at hp
      rcases hp with rfl | rfl
      · exact HY0.out
      · exact HY1.out)
    have BWm := chid (cbelow_on B1.out (ebel w1 (.cells #[.slice none 0 0] 53)) B1.out.size)
    have EO := EW.alloc (l := [.slice none 0 0, .int .i64 0]) (t := 55)
    have HPw := chid (HPl.out.next BWm.out)
    rw [← hmb] at EW EO hmb1
    have x0 := HY0.out.cell 0 _ rfl
    have x1 := HY0.out.cell 1 _ rfl
    have x2 := HY0.out.cell 2 _ rfl
    have x3 := HY0.out.cell 3 _ rfl
    have x4 := HY0.out.cell 4 _ rfl
    have x5 := HY0.out.cell 5 _ rfl
    have x6 := HY0.out.cell 6 _ rfl
    have x7 := HY0.out.cell 7 _ rfl
    have x8 := HY0.out.cell 8 _ rfl
    have x9 := HY0.out.cell 9 _ rfl
    have x10 := HY0.out.cell 10 _ rfl
    have x11 := HY0.out.cell 11 _ rfl
    have x12 := HY0.out.cell 12 _ rfl
    have x13 := HY0.out.cell 13 _ rfl
    have xl := HY0.out.lt
    go_wp2_with fail
    have hsz : (w1.alloc (.cells #[.slice none 0 0] 53)).heap.size = mb + 1 := by rw [hmb]; simp
    rw [hsz] at EO
    rw [← hmb]
    generalize hW0 : (w1.alloc (.cells #[.slice none 0 0] 53)) = W at *
    generalize hV0 : (W.alloc _) = V0 at *
    obtain ⟨od, hod⟩ : ∃ od, od = mb + 1 := ⟨_, rfl⟩
    rw [← hod] at EO hsz ⊢
    have HOd : Hid (W.heap.size ≤ od) := chid (by omega)
    have HMb : Hid (w.heap.size + 1 < mb ∧ mb < od ∧ W.heap.size = od) := chid ⟨hmb1.out, by omega, hsz⟩
    have EE := chid EO
    clear hW0 hV0 EO EW hod hsz hmb x0 x1 x2 x3 x4 x5 x6 x7 x8 x9 x10 x11 x12 x13 xl
    have HNe : Hid (∀ pp, pp ∈ ([(w.heap.size, (plL p ⟨.slice a1 p.mets.length c1, .slice a2 p.wins.length c2, .slice a3 p.crons.length c3, .slice a4 N c4, .slice a5 p.fin.parts.length c5⟩)), (w.heap.size + 1, (pgL pg0 ⟨.slice none 0 0, .slice none 0 0, .slice none 0 0, .slice none 0 0⟩))] : List (Nat × List Value)) → pp.1 ≠ od) := chid (fun pp hp => by
      have h7 := HMb.out
      simp only [List.mem_cons, List.not_mem_nil, or_false] at hp
      rcases hp with rfl | rfl
      · show w.heap.size ≠ od; omega
      · show w.heap.size + 1 ≠ od; omega)
    obtain ⟨T, KT, hT⟩ : ∃ T KT, Hid (cat [] (planM p.gs p.fin []).1 = T ∧ (planM p.gs p.fin []).2 = KT) := ⟨_, _, chid ⟨rfl, rfl⟩⟩
    obtain ⟨Hh, hHh⟩ : ∃ Hh, Hid (Hh = plHgt p) := ⟨_, chid rfl⟩
    have HSt : Hid (cat [] (planM (p.gs.drop 0) p.fin []).1 = T ∧ (planM (p.gs.drop 0) p.fin []).2 = KT) := chid hT.out
    have HC0 : Hid (([] : List Ins).length + 8 * (gN (p.gs.drop 0) + cnodes p.fin) ≤ 32768 ∧ ([] : List Int).length + 2 * (gN (p.gs.drop 0) + cnodes p.fin) ≤ 8192) := chid (by
      have := HFf.out.1
      show 0 + 8 * (gN p.gs + cnodes p.fin) ≤ 32768 ∧ 0 + 2 * (gN p.gs + cnodes p.fin) ≤ 8192
      omega)
    have HH0 : Hid (max 0 (max (hgtF p.fin) (hG (p.gs.drop 0))) = Hh) := chid (by rw [hHh.out]; unfold plHgt; rw [List.drop_zero]; omega)
    have HHm : Hid (Hh ≤ 13000) := chid (by
      rw [hHh.out]
      unfold plHgt
      have h7 := HFf.out.1
      have h8 := hgt_le p.fin
      have h9 := hG_le p.gs
      omega)
    have hNs : N ≤ 900000 := by
      have h1 := HFf.out.1
      have h2 : p.gs.length ≤ gN p.gs := by
        clear h1 HC0 HSt HFf HVa HAa HJa hnl hN hT HH0 HHm hHh HR HPl HPw
        generalize p.gs = l
        induction l with
        | nil => simp
        | cons g r ih => rw [gN_cons, List.length_cons]; have := cnodes_pos g.1; omega
      have := hN.out
      omega
    go_loopw [6] (fun i wr => ∃ (j : Nat) (D : List Ins) (L : List Int) (vd : Value) (h : Nat) (a : Option Addr) (c : Nat), i = .int .i64 (j : Nat) ∧ j ≤ N ∧ Hid (Env mb (mft mb (.slice none 0 0)) W ((od, [.slice a D.length c, .int .i64 (h : Nat)]) :: [(w.heap.size, (plL p ⟨.slice a1 p.mets.length c1, .slice a2 p.wins.length c2, .slice a3 p.crons.length c3, .slice a4 N c4, .slice a5 p.fin.parts.length c5⟩)), (w.heap.size + 1, (pgL pg0 ⟨.slice none 0 0, .slice none 0 0, .slice none 0 0, .slice none 0 0⟩))]) [(D, .slice a D.length c)] L vd wr) ∧ Hid (cat D (planM (p.gs.drop j) p.fin L).1 = T ∧ (planM (p.gs.drop j) p.fin L).2 = KT) ∧ Hid (D.length + 8 * (gN (p.gs.drop j) + cnodes p.fin) ≤ 32768 ∧ L.length + 2 * (gN (p.gs.drop j) + cnodes p.fin) ≤ 8192) ∧ Hid (max h (max (hgtF p.fin) (hG (p.gs.drop j))) = Hh)) (fun i _ => match i with | .int _ z => ((N : Int) - z).toNat | _ => 0)
    case atStart => exact ⟨0, [], [], .slice none 0 0, 0, none, 0, rfl, Nat.zero_le _, EE, HSt, HC0, HH0⟩
    case round =>
      obtain ⟨j, D, L, vd, h, a, c, rfl, hjN, HEn, HTt, HSz, HHt⟩ := hrel
      clear EE
      have EE := HEn
      by_cases hlt : j < N
      · have hlt' : (j : Int) < (N : Int) := by omega
        have hjl : j < p.gs.length := by rw [← hN.out]; exact hlt
        have hD : p.gs.drop j = p.gs[j] :: p.gs.drop (j + 1) := List.drop_eq_getElem_cons hjl
        have hgm : p.gs[j] ∈ p.gs := List.getElem_mem hjl
        have HG := HPl.out.gs
        obtain ⟨b, off, cap', hv, -, -, hbl, hx⟩ := HG.open (by omega)
        simp only [Value.slice.injEq] at hv
        obtain ⟨rfl, -, rfl⟩ := hv
        obtain ⟨u1, u2, f1, f2, s1, s2⟩ := hx j hjl
        obtain ⟨ax, cx, rfl, -, -⟩ := s1.parts.shape
        obtain ⟨ay, cy, rfl, -, -⟩ := s2.parts.shape
        have kp := fun q => BWm.out.cell (p := ⟨b, q, none⟩) hbl
        obtain ⟨y0, y1, y2, y3⟩ := f1.keep kp
        obtain ⟨y4, y5, y6, y7⟩ := f2.keep kp
        have HGc := chid (And.intro y0 (And.intro y1 (And.intro y2 (And.intro y3 (And.intro y4 (And.intro y5 (And.intro y6 y7)))))))
        have HB : Hid (b < W.heap.size ∧ b < mb) := chid ⟨Nat.lt_of_lt_of_le hbl BWm.out.size, by have := HMb.out; omega⟩
        have HS1 := chid (elow s1 (by have := HMb.out; omega : w.heap.size ≤ mb) BWm.out)
        have HS2 := chid (elow s2 (by have := HMb.out; omega : w.heap.size ≤ mb) BWm.out)
        have HSo := chid (HFf.out.2.2.2.1 _ hgm)
        have HDr := chid hD
        clear HG hx f1 f2 s1 s2 kp hbl hD hgm y0 y1 y2 y3 y4 y5 y6 y7
        generalize p.gs[j] = g at *
        obtain ⟨A, K1, hA⟩ : ∃ A K1, Hid (codF g.1 L = (A, K1)) := ⟨_, _, chid rfl⟩
        obtain ⟨B, K2, hB⟩ : ∃ B K2, Hid (codF g.2 K1 = (B, K2)) := ⟨_, _, chid rfl⟩
        have HSz2 : Hid (A.length ≤ 6 * cnodes g.1 ∧ K1.length ≤ L.length + 2 * cnodes g.1 ∧ B.length ≤ 6 * cnodes g.2 ∧ K2.length ≤ K1.length + 2 * cnodes g.2 ∧ gN (p.gs.drop j) = cnodes g.1 + cnodes g.2 + gN (p.gs.drop (j + 1)) ∧ 1 ≤ cnodes g.1) := chid (by
          have h1 := cod_lb g.1 L
          have h2 := cod_lb g.2 K1
          rw [hA.out] at h1
          rw [hB.out] at h2
          exact ⟨h1.1, h1.2, h2.1, h2.2, by rw [HDr.out, gN_cons], cnodes_pos g.1⟩)
        have HJA : Hid (JB A) := chid (by have h9 := HJa.out g.1 L (by have := HSo.out; omega) (by have := HSz.out; have := HSz2.out; omega); rw [hA.out] at h9; exact h9)
        have HJB : Hid (JB B) := chid (by have h9 := HJa.out g.2 K1 (by have := HSo.out; omega) (by have := HSz.out; have := HSz2.out; omega); rw [hB.out] at h9; exact h9)
        obtain ⟨ha, hha⟩ : ∃ ha, Hid (ha = hgtF g.1) := ⟨_, chid rfl⟩
        obtain ⟨hb, hhb⟩ : ∃ hb, Hid (hb = hgtF g.2) := ⟨_, chid rfl⟩
        have HV1 := chid (fun (vk' : Value) (u : World) (hs' : CSP (fun b => b < mb) u g.1 (.slice ax g.1.parts.length cx)) (hk : Mkr u mb L vk') => HVa.out g.1 (.inr HSo.out.1) (.slice ax g.1.parts.length cx) mb L vk' u hs' hk (by have := HSz.out; have := HSz2.out; omega) (by have := HSz.out; have := HSz2.out; omega))
        simp only [hA.out, ← hha.out] at HV1
        have HV2 := chid (fun (vk' : Value) (u : World) (hs' : CSP (fun b => b < mb) u g.2 (.slice ay g.2.parts.length cy)) (hk : Mkr u mb K1 vk') => HAa.out g.2 HSo.out.2 (.slice ay g.2.parts.length cy) mb K1 vk' u hs' hk (by have := HSz.out; have := HSz2.out; omega) (by have := HSz.out; have := HSz2.out; omega))
        simp only [hB.out, ← hhb.out] at HV2
        have HHb : Hid (max h (max (hgtF p.fin) (max (max ha hb) (hG (p.gs.drop (j + 1))))) = Hh) := chid (by
          have h9 := HHt.out
          rw [HDr.out] at h9
          rw [hha.out, hhb.out]
          exact h9)
        have HTn : Hid (cat (cat (cat (cat D A) [(24, (1 : Int) + (B.length : Int))]) B) (planM (p.gs.drop (j + 1)) p.fin K2).1 = T ∧ (planM (p.gs.drop (j + 1)) p.fin K2).2 = KT) := chid (by
          have h9 := eplan_step g (p.gs.drop (j + 1)) p.fin D L K1 K2 A B hA.out hB.out
          have h8 := HTt.out
          rw [HDr.out] at h8
          exact ⟨h9.1.symm.trans h8.1, h9.2.symm.trans h8.2⟩)
        clear HTt HHt
        have x9 := (EE.out.bx (w.heap.size, (plL p ⟨.slice a1 p.mets.length c1, .slice a2 p.wins.length c2, .slice a3 p.crons.length c3, .slice (some ⟨b, off, none⟩) N c4, .slice a5 p.fin.parts.length c5⟩)) (by simp)).1.cell 9 _ rfl
        have xl := (EE.out.bx (w.heap.size, (plL p ⟨.slice a1 p.mets.length c1, .slice a2 p.wins.length c2, .slice a3 p.crons.length c3, .slice (some ⟨b, off, none⟩) N c4, .slice a5 p.fin.parts.length c5⟩)) (by simp)).1.lt
        have y0 := EE.out.cell HB.out.1 HB.out.2 HGc.out.1
        have y1 := EE.out.cell HB.out.1 HB.out.2 HGc.out.2.1
        have y2 := EE.out.cell HB.out.1 HB.out.2 HGc.out.2.2.1
        have y3 := EE.out.cell HB.out.1 HB.out.2 HGc.out.2.2.2.1
        have bl : b < wr.heap.size := Nat.lt_of_lt_of_le HB.out.1 EE.out.mw.turn.size
        go_wp2_with fail
        refine Calls.mono (HV1.out vd wr (EE.out.core HS1.out) EE.out.mw.mkr) ?_
        intro e w2 g2
        have Hod2 : Hid (od < w2.heap.size) := chid (Nat.lt_of_lt_of_le (EE.out.bx (od, [.slice a D.length c, .int .i64 (h : Nat)]) (by simp)).1.lt (msize g2))
        obtain ⟨vk2, a6, c6, rfl, E1⟩ := EE.out.call g2
        have x9 := (E1.bx (w.heap.size, (plL p ⟨.slice a1 p.mets.length c1, .slice a2 p.wins.length c2, .slice a3 p.crons.length c3, .slice (some ⟨b, off, none⟩) N c4, .slice a5 p.fin.parts.length c5⟩)) (by simp)).1.cell 9 _ rfl
        have xl := (E1.bx (w.heap.size, (plL p ⟨.slice a1 p.mets.length c1, .slice a2 p.wins.length c2, .slice a3 p.crons.length c3, .slice (some ⟨b, off, none⟩) N c4, .slice a5 p.fin.parts.length c5⟩)) (by simp)).1.lt
        have y4 := E1.cell HB.out.1 HB.out.2 HGc.out.2.2.2.2.1
        have y5 := E1.cell HB.out.1 HB.out.2 HGc.out.2.2.2.2.2.1
        have y6 := E1.cell HB.out.1 HB.out.2 HGc.out.2.2.2.2.2.2.1
        have y7 := E1.cell HB.out.1 HB.out.2 HGc.out.2.2.2.2.2.2.2
        have bl : b < w2.heap.size := Nat.lt_of_lt_of_le HB.out.1 E1.mw.turn.size
        replace EE := chid E1
        clear g2 E1 y0 y1 y2 y3
        go_wp2_with fail
        clear x9 xl y4 y5 y6 y7 bl
        have E2 := EE.out.alloc (l := [.slice a6 A.length c6, .int .i64 (ha : Nat)]) (t := 55)
        obtain ⟨db, hdb⟩ : ∃ db, db = w2.heap.size := ⟨_, rfl⟩
        rw [← hdb] at E2 Hod2 ⊢
        generalize hV2 : (w2.alloc _) = V2 at *
        clear hV2 hdb
        replace EE := chid E2
        clear E2
        refine Calls.mono (HV2.out vk2 V2 (EE.out.core HS2.out) EE.out.mw.mkr) ?_
        intro e w3 g3
        have Hdb3 : Hid (db < w3.heap.size) := chid (Nat.lt_of_lt_of_le (EE.out.bx (db, [.slice a6 A.length c6, .int .i64 (ha : Nat)]) (by simp)).1.lt (msize g3))
        have Hod3 : Hid (od < w3.heap.size) := chid (by have := Hdb3.out; have := Hod2.out; omega)
        obtain ⟨vk3, a7, c7, rfl, E1⟩ := EE.out.call g3
        have d0 := (E1.bx (od, [.slice a D.length c, .int .i64 (h : Nat)]) (by simp)).1.cell 0 _ rfl
        have d1 := (E1.bx (od, [.slice a D.length c, .int .i64 (h : Nat)]) (by simp)).1.cell 1 _ rfl
        have dl := (E1.bx (od, [.slice a D.length c, .int .i64 (h : Nat)]) (by simp)).1.lt
        have e0 := (E1.bx (db, [.slice a6 A.length c6, .int .i64 (ha : Nat)]) (by simp)).1.cell 0 _ rfl
        have e1 := (E1.bx (db, [.slice a6 A.length c6, .int .i64 (ha : Nat)]) (by simp)).1.cell 1 _ rfl
        have el := (E1.bx (db, [.slice a6 A.length c6, .int .i64 (ha : Nat)]) (by simp)).1.lt
        replace EE := chid E1
        clear g3 E1
        go_wp2_with fail
        clear d0 d1 dl e0 e1 el
        have E2 := EE.out.alloc (l := [.slice a7 B.length c7, .int .i64 (hb : Nat)]) (t := 55)
        obtain ⟨dc, hdc⟩ : ∃ dc, dc = w3.heap.size := ⟨_, rfl⟩
        rw [← hdc] at E2 Hod3 ⊢
        generalize hV3 : (w3.alloc _) = V3 at *
        clear hV3 hdc
        replace EE := chid (Env.sub (L' := (od, [.slice a D.length c, .int .i64 (h : Nat)]) :: (dc, [.slice a7 B.length c7, .int .i64 (hb : Nat)]) :: [(w.heap.size, (plL p ⟨.slice a1 p.mets.length c1, .slice a2 p.wins.length c2, .slice a3 p.crons.length c3, .slice (some ⟨b, off, none⟩) N c4, .slice a5 p.fin.parts.length c5⟩)), (w.heap.size + 1, (pgL pg0 ⟨.slice none 0 0, .slice none 0 0, .slice none 0 0, .slice none 0 0⟩))]) (PS' := [(D, .slice a D.length c), (A, .slice a6 A.length c6), (B, .slice a7 B.length c7)]) E2 (by intro pp hp; simp only [List.mem_cons, List.not_mem_nil, or_false] at hp ⊢; rcases hp with rfl | rfl | rfl | rfl <;> simp) (by intro pp hp; simp only [List.mem_cons, List.not_mem_nil, or_false] at hp ⊢; rcases hp with rfl | rfl | rfl <;> simp))
        clear E2
        have HNe2 : Hid (∀ pp, pp ∈ ((dc, [.slice a7 B.length c7, .int .i64 (hb : Nat)]) :: [(w.heap.size, (plL p ⟨.slice a1 p.mets.length c1, .slice a2 p.wins.length c2, .slice a3 p.crons.length c3, .slice (some ⟨b, off, none⟩) N c4, .slice a5 p.fin.parts.length c5⟩)), (w.heap.size + 1, (pgL pg0 ⟨.slice none 0 0, .slice none 0 0, .slice none 0 0, .slice none 0 0⟩))] : List (Nat × List Value)) → pp.1 ≠ od) := chid (fun pp hp => by
          rcases List.mem_cons.1 hp with rfl | hp
          · have := Hod3.out; show dc ≠ od; omega
          · exact HNe.out pp hp)
        obtain ⟨D1, hD1⟩ : ∃ CC9, Hid (CC9 = cat D A) := ⟨_, chid rfl⟩
        obtain ⟨m1, hm1⟩ : ∃ nn9, Hid (nn9 = D1.length) := ⟨_, chid rfl⟩
        obtain ⟨g1, hg1⟩ : ∃ gg9, Hid (gg9 = max h (ha + 0)) := ⟨_, chid rfl⟩
        have HlD1 : Hid (D1.length = D.length + A.length) := chid (by rw [hD1.out, cat_len])
        refine Calls.mono (ethen_b D A h ha 0 _ _ V3 (EE.out.read (by simp)) (EE.out.read (by simp)) (by have := HSz.out; have := HSz2.out; omega) (by have := HHm.out; have := HHb.out; omega) HJA.out D1 hD1.out m1 hm1.out g1 hg1.out) ?_
        rintro e w8 ⟨aR1, cR1, rfl, b8, p8⟩
        have E9 := EE.out.made b8 p8
        have zb := (E9.bx (od, [.slice a D.length c, .int .i64 (h : Nat)]) (by simp)).1
        have z0 := zb.cell 0 _ rfl
        have z1 := zb.cell 1 _ rfl
        have zf0 := zb.free 0 (by simp)
        have zf1 := zb.free 1 (by simp)
        have zl := zb.lt
        have E8 := chid (E9.put2 (x := .slice aR1 m1 cR1) (y := .int .i64 (g1 : Nat)) HNe2.out HOd.out)
        clear zb E9 b8 p8 EE
        go_wp2_with fail
        generalize hV9 : ((w8.setCell _ _).setCell _ _) = V9 at *
        clear hV9 z0 z1 zf0 zf1 zl
        have EE := chid (Env.sub (L' := (od, [.slice aR1 m1 cR1, .int .i64 (g1 : Nat)]) :: (dc, [.slice a7 B.length c7, .int .i64 (hb : Nat)]) :: [(w.heap.size, (plL p ⟨.slice a1 p.mets.length c1, .slice a2 p.wins.length c2, .slice a3 p.crons.length c3, .slice (some ⟨b, off, none⟩) N c4, .slice a5 p.fin.parts.length c5⟩)), (w.heap.size + 1, (pgL pg0 ⟨.slice none 0 0, .slice none 0 0, .slice none 0 0, .slice none 0 0⟩))]) (PS' := [(D1, .slice aR1 m1 cR1), (B, .slice a7 B.length c7)]) E8.out (fun _ h => h) (by intro pp hp; simp only [List.mem_cons, List.not_mem_nil, or_false] at hp ⊢; rcases hp with rfl | rfl <;> simp))
        clear E8
        have hw4 : IntKind.i64.wrap (1 + (B.length : Int)) = 1 + (B.length : Int) := by have := HSz.out; have := HSz2.out; rw [IntKind.wrap_i64]; omega
        obtain ⟨D2, hD2⟩ : ∃ CC9, Hid (CC9 = cat D1 [(24, (1 : Int) + (B.length : Int))]) := ⟨_, chid rfl⟩
        obtain ⟨m2, hm2⟩ : ∃ nn9, Hid (nn9 = D2.length) := ⟨_, chid rfl⟩
        obtain ⟨g2, hg2⟩ : ∃ gg9, Hid (gg9 = max g1 (0 + 0)) := ⟨_, chid rfl⟩
        have HlD2 : Hid (D2.length = D1.length + 1) := chid (by rw [hD2.out, cat_len]; (first | done | rfl))
        have HSk : Hid (∀ L' PS' K' vk' u, Env mb (mft mb (.slice none 0 0)) W L' PS' K' vk' u → (∀ pz9, pz9 ∈ [(dc, [.slice a7 B.length c7, .int .i64 (hb : Nat)])] → pz9 ∈ L') → (fun w' => w'.cell? ⟨dc, 0, none⟩ = some (.slice a7 B.length c7)) u ∧ dc < u.heap.size) := chid (fun _ _ _ _ u hE hL => ⟨(hE.bx (dc, [.slice a7 B.length c7, .int .i64 (hb : Nat)]) (hL _ (by simp))).1.cell 0 _ rfl, (hE.bx (dc, [.slice a7 B.length c7, .int .i64 (hb : Nat)]) (hL _ (by simp))).1.lt⟩)
        have hS9 := HSk.out _ _ _ _ _ EE.out (by simp)
        have e0 := hS9.1
        have el := hS9.2
        clear hS9
        apply viaQ2 (fun _ _ aQ cQ w' => ∃ vk', Env mb (mft mb (.slice none 0 0)) W ((od, [.slice aQ m2 cQ, .int .i64 (g2 : Nat)]) :: (dc, [.slice a7 B.length c7, .int .i64 (hb : Nat)]) :: [(w.heap.size, (plL p ⟨.slice a1 p.mets.length c1, .slice a2 p.wins.length c2, .slice a3 p.crons.length c3, .slice (some ⟨b, off, none⟩) N c4, .slice a5 p.fin.parts.length c5⟩)), (w.heap.size + 1, (pgL pg0 ⟨.slice none 0 0, .slice none 0 0, .slice none 0 0, .slice none 0 0⟩))]) ((D2, .slice aQ m2 cQ) :: [(B, .slice a7 B.length c7)]) K2 vk' w')
        case hreg =>
          have ED := chid (EE.out.next (bdr V9))
          refine wp_region_held_drew (S := (fun w' => w'.cell? ⟨dc, 0, none⟩ = some (.slice a7 B.length c7))) (by kernel_rfl) ((HSk.out _ _ _ _ _ ED.out (by simp)).1) (fun hS0 => ?_)
          refine wpAnyH_take (i := 1) (v := .pointer (some ⟨dc, 0, none⟩)) rfl (by kernel_rfl) (by kernel_rfl) (by kernel_rfl) (fun _ _ _ h => h) (Or.inl ⟨rfl, fun w' hS' => ?_⟩) hS0 ?_
          · have q0 := hS'
            clear hS'
            go_simp
          refine wpAnyH_take (i := 2) (v := .slice a7 B.length c7) rfl (by kernel_rfl) (by kernel_rfl) (by kernel_rfl) (fun _ _ _ h => h) (Or.inl ⟨rfl, fun w' hS' => ?_⟩) hS0 ?_
          · have q0 := hS'
            clear hS'
            go_simp
          refine wpAnyH_take (i := 3) (v := .int .i64 (B.length : Nat)) rfl (by kernel_rfl) (by kernel_rfl) (by kernel_rfl) (fun _ _ _ h => h) (Or.inl ⟨rfl, fun w' hS' => ?_⟩) hS0 ?_
          · have q0 := hS'
            clear hS'
            go_simp
          refine wpAnyH_take (i := 4) (v := .int .i64 (1 + (B.length : Int))) rfl (by kernel_rfl) (by kernel_rfl) (by kernel_rfl) (fun _ _ _ h => h) (Or.inl ⟨rfl, fun w' hS' => ?_⟩) hS0 ?_
          · have q0 := hS'
            clear hS'
            go_simp
          refine wpAnyH_ready (rs := [0, 5]) (by kernel_rfl) (by simp) (AllReadyH.cons (i := 0) rfl (fun K hK => ?_) (AllReadyH.cons (i := 5) rfl (fun K hK => ?_) AllReadyH.nil))
          · skip
            have bo := (ED.out.bx (od, [.slice aR1 m1 cR1, .int .i64 (g1 : Nat)]) (by simp)).1
            have d0 := bo.cell 0 _ rfl
            have d1 := bo.cell 1 _ rfl
            have dl := bo.lt
            clear bo
            rw [if_pos (show Region.wanted _ _ = true from rfl)]
            go_simp
            refine hK.out _ _ hS0 (fun _ => ?_)
            clear hK d0 d1 dl
            refine wpAnyH_ready (rs := [5]) (by kernel_rfl) (by simp) (AllReadyH.cons (i := 5) rfl (fun K hK => ?_) AllReadyH.nil)
            refine step_e rfl (eone_e ED.out 24 (1 + (B.length : Int)) 0) (by first | rfl | go_simp) ?_
            intro u w1 hu
            obtain ⟨vkP, aP, cP, rfl, E1⟩ := hu
            have hS1 := (HSk.out _ _ _ _ _ E1 (by simp)).1
            refine hK.out _ _ hS1 (fun _ => ?_)
            clear hK
            refine wpAnyH_ready (rs := [6]) (by kernel_rfl) (by simp) (AllReadyH.cons (i := 6) rfl (fun K hK => ?_) AllReadyH.nil)
            refine step_e rfl (ethen_e E1 D1 [(24, (1 : Int) + (B.length : Int))] g1 0 0 (.slice aR1 m1 cR1) _ (by simp) List.mem_cons_self (by have := HSz.out; have := HSz2.out; have := HlD1.out; have := HlD2.out; (try simp only [List.length_singleton]); omega) (by have := HHm.out; have := HHb.out; have := hg1.out; have := hg2.out; omega) (JB.one (fun _ => by have := HSz.out; have := HSz2.out; omega)) D2 hD2.out m2 hm2.out g2 hg2.out) (by first | rfl | go_simp) ?_
            intro u w2 hu
            obtain ⟨vkQ, aQ, cQ, rfl, E2⟩ := hu
            have E3 := chid (E2.put2 (x := .slice aQ m2 cQ) (y := .int .i64 (g2 : Nat)) (HNe2.out) (HOd.out))
            have bo := (E2.bx (od, [.slice aR1 m1 cR1, .int .i64 (g1 : Nat)]) (by simp)).1
            have z0 := bo.cell 0 _ rfl
            have z1 := bo.cell 1 _ rfl
            have zf0 := bo.free 0 (by simp)
            have zf1 := bo.free 1 (by simp)
            have zl := bo.lt
            clear bo
            have hS2 := (HSk.out _ _ _ _ _ E2 (by simp)).1
            have hS3 := chid (HSk.out _ _ _ _ _ E3.out (by simp)).1
            refine hK.out _ _ hS2 (fun _ => ?_)
            clear hK hS2
            refine wpAnyH_ready (rs := [7]) (by kernel_rfl) (by simp) (AllReadyH.cons (i := 7) rfl (fun K hK => ?_) AllReadyH.nil)
            rw [if_pos (show Region.wanted _ _ = true from rfl)]
            go_simp
            refine hK.out _ _ hS3.out (fun _ => ?_)
            clear hK
            refine wpAnyH_done (by kernel_rfl) ?_ _
            exact ⟨aP, cP, aQ, cQ, rfl, _, E3.out.sub (fun _ h => h) (fun q hq => (List.mem_cons.1 hq).elim (fun e => e ▸ List.mem_cons_self) (fun h => List.mem_cons_of_mem _ (List.mem_cons_of_mem _ (List.mem_cons_of_mem _ h))))⟩
          · skip
            refine step_e rfl (eone_e ED.out 24 (1 + (B.length : Int)) 0) (by first | rfl | go_simp) ?_
            intro u w1 hu
            obtain ⟨vkP, aP, cP, rfl, E1⟩ := hu
            have hS1 := (HSk.out _ _ _ _ _ E1 (by simp)).1
            refine hK.out _ _ hS1 (fun _ => ?_)
            clear hK
            refine wpAnyH_ready (rs := [0]) (by kernel_rfl) (by simp) (AllReadyH.cons (i := 0) rfl (fun K hK => ?_) AllReadyH.nil)
            have bo := (E1.bx (od, [.slice aR1 m1 cR1, .int .i64 (g1 : Nat)]) (by simp)).1
            have d0 := bo.cell 0 _ rfl
            have d1 := bo.cell 1 _ rfl
            have dl := bo.lt
            clear bo
            rw [if_pos (show Region.wanted _ _ = true from rfl)]
            go_simp
            refine hK.out _ _ hS1 (fun _ => ?_)
            clear hK d0 d1 dl
            refine wpAnyH_ready (rs := [6]) (by kernel_rfl) (by simp) (AllReadyH.cons (i := 6) rfl (fun K hK => ?_) AllReadyH.nil)
            refine step_e rfl (ethen_e E1 D1 [(24, (1 : Int) + (B.length : Int))] g1 0 0 (.slice aR1 m1 cR1) _ (by simp) List.mem_cons_self (by have := HSz.out; have := HSz2.out; have := HlD1.out; have := HlD2.out; (try simp only [List.length_singleton]); omega) (by have := HHm.out; have := HHb.out; have := hg1.out; have := hg2.out; omega) (JB.one (fun _ => by have := HSz.out; have := HSz2.out; omega)) D2 hD2.out m2 hm2.out g2 hg2.out) (by first | rfl | go_simp) ?_
            intro u w2 hu
            obtain ⟨vkQ, aQ, cQ, rfl, E2⟩ := hu
            have E3 := chid (E2.put2 (x := .slice aQ m2 cQ) (y := .int .i64 (g2 : Nat)) (HNe2.out) (HOd.out))
            have bo := (E2.bx (od, [.slice aR1 m1 cR1, .int .i64 (g1 : Nat)]) (by simp)).1
            have z0 := bo.cell 0 _ rfl
            have z1 := bo.cell 1 _ rfl
            have zf0 := bo.free 0 (by simp)
            have zf1 := bo.free 1 (by simp)
            have zl := bo.lt
            clear bo
            have hS2 := (HSk.out _ _ _ _ _ E2 (by simp)).1
            have hS3 := chid (HSk.out _ _ _ _ _ E3.out (by simp)).1
            refine hK.out _ _ hS2 (fun _ => ?_)
            clear hK hS2
            refine wpAnyH_ready (rs := [7]) (by kernel_rfl) (by simp) (AllReadyH.cons (i := 7) rfl (fun K hK => ?_) AllReadyH.nil)
            rw [if_pos (show Region.wanted _ _ = true from rfl)]
            go_simp
            refine hK.out _ _ hS3.out (fun _ => ?_)
            clear hK
            refine wpAnyH_done (by kernel_rfl) ?_ _
            exact ⟨aP, cP, aQ, cQ, rfl, _, E3.out.sub (fun _ h => h) (fun q hq => (List.mem_cons.1 hq).elim (fun e => e ▸ List.mem_cons_self) (fun h => List.mem_cons_of_mem _ (List.mem_cons_of_mem _ (List.mem_cons_of_mem _ h))))⟩
        case hrest =>
        intro _ _ aR2 cR2 wR2 hG
        obtain ⟨vkR2, E9⟩ := hG
        clear HSk e0 el
        replace EE := chid E9
        clear E9
        have d0 := (EE.out.bx (od, [.slice aR2 m2 cR2, .int .i64 (g2 : Nat)]) (by simp)).1.cell 0 _ rfl
        have d1 := (EE.out.bx (od, [.slice aR2 m2 cR2, .int .i64 (g2 : Nat)]) (by simp)).1.cell 1 _ rfl
        have dl := (EE.out.bx (od, [.slice aR2 m2 cR2, .int .i64 (g2 : Nat)]) (by simp)).1.lt
        have e0 := (EE.out.bx (dc, [.slice a7 B.length c7, .int .i64 (hb : Nat)]) (by simp)).1.cell 0 _ rfl
        have e1 := (EE.out.bx (dc, [.slice a7 B.length c7, .int .i64 (hb : Nat)]) (by simp)).1.cell 1 _ rfl
        have el := (EE.out.bx (dc, [.slice a7 B.length c7, .int .i64 (hb : Nat)]) (by simp)).1.lt
        go_wp2_with fail
        clear d0 d1 dl e0 e1 el
        obtain ⟨D3, hD3⟩ : ∃ CC9, Hid (CC9 = cat D2 B) := ⟨_, chid rfl⟩
        obtain ⟨m3, hm3⟩ : ∃ nn9, Hid (nn9 = D3.length) := ⟨_, chid rfl⟩
        obtain ⟨g3, hg3⟩ : ∃ gg9, Hid (gg9 = max g2 (hb + 0)) := ⟨_, chid rfl⟩
        have HlD3 : Hid (D3.length = D2.length + B.length) := chid (by rw [hD3.out, cat_len])
        refine Calls.mono (ethen_b D2 B g2 hb 0 _ _ wR2 (EE.out.read (by simp)) (EE.out.read (by simp)) (by have := HSz.out; have := HSz2.out; have := HlD1.out; have := HlD2.out; omega) (by have := HHm.out; have := HHb.out; have := hg1.out; have := hg2.out; omega) HJB.out D3 hD3.out m3 hm3.out g3 hg3.out) ?_
        rintro e w8 ⟨aR3, cR3, rfl, b8, p8⟩
        have E9 := EE.out.made b8 p8
        have zb := (E9.bx (od, [.slice aR2 m2 cR2, .int .i64 (g2 : Nat)]) (by simp)).1
        have z0 := zb.cell 0 _ rfl
        have z1 := zb.cell 1 _ rfl
        have zf0 := zb.free 0 (by simp)
        have zf1 := zb.free 1 (by simp)
        have zl := zb.lt
        have E8 := chid (E9.put2 (x := .slice aR3 m3 cR3) (y := .int .i64 (g3 : Nat)) HNe2.out HOd.out)
        clear zb E9 b8 p8 EE
        go_wp2_with fail
        generalize hV9 : ((w8.setCell _ _).setCell _ _) = V9 at *
        clear hV9 z0 z1 zf0 zf1 zl
        go_roundw
        case rel =>
          refine ⟨j + 1, D3, K2, vkR2, g3, aR3, cR3, by go_num, by omega, ?_, ?_, ?_, ?_⟩
          · have h9 := E8.out
            rw [hm3.out] at h9
            exact chid (Env.sub h9 (by intro pp hp; simp only [List.mem_cons, List.not_mem_nil, or_false] at hp ⊢; rcases hp with rfl | rfl | rfl <;> simp) (by intro pp hp; simp only [List.mem_cons, List.not_mem_nil, or_false] at hp ⊢; subst hp; simp))
          · exact chid (by have h9 := HTn.out; rw [← hD1.out, ← hD2.out, ← hD3.out] at h9; exact h9)
          · exact chid (by have := HSz.out; have := HSz2.out; have := HlD1.out; have := HlD2.out; have := HlD3.out; omega)
          · exact chid (by have := HHb.out; have := hg1.out; have := hg2.out; have := hg3.out; omega)
        case measure => simp; omega
      · have hlt' : ¬ (j : Int) < (N : Int) := by omega
        have hjn : j = N := by omega
        have HDn : Hid (p.gs.drop j = []) := chid (List.drop_eq_nil_of_le (by have := hN.out; omega))
        obtain ⟨A, K1, hA⟩ : ∃ A K1, Hid (codF p.fin L = (A, K1)) := ⟨_, _, chid rfl⟩
        obtain ⟨ha, hha⟩ : ∃ ha, Hid (ha = hgtF p.fin) := ⟨_, chid rfl⟩
        have HSz2 : Hid (A.length ≤ 6 * cnodes p.fin ∧ K1.length ≤ L.length + 2 * cnodes p.fin ∧ cnodes p.fin ≤ 4096) := chid (by
          have h1 := cod_lb p.fin L
          rw [hA.out] at h1
          exact ⟨h1.1, h1.2, by have := HFf.out.1; omega⟩)
        have HJA : Hid (JB A) := chid (by have h9 := HJa.out p.fin L (by have := HFf.out.2.2.2.2; omega) (by have := HSz2.out; omega); rw [hA.out] at h9; exact h9)
        have HHb : Hid (max h ha = Hh) := chid (by
          have h9 := HHt.out
          rw [HDn.out] at h9
          rw [hha.out]
          have h8 : hG [] = 0 := rfl
          rw [h8] at h9
          omega)
        have HTn : Hid (cat D A = T ∧ K1 = KT) := chid (by
          have h8 := HTt.out
          rw [HDn.out] at h8
          have h9 : planM [] p.fin L = (A, K1) := hA.out
          rw [h9] at h8
          exact h8)
        have HSf := chid (elow HPl.out.fi (by have := HMb.out; omega : w.heap.size ≤ mb) BWm.out)
        have HV1 := chid (fun (vk' : Value) (u : World) (hs' : CSP (fun b => b < mb) u p.fin (.slice a5 p.fin.parts.length c5)) (hk : Mkr u mb L vk') => HAa.out p.fin HFf.out.2.2.2.2 (.slice a5 p.fin.parts.length c5) mb L vk' u hs' hk (by have := HSz.out; have := HSz2.out; omega) (by have := HSz.out; have := HSz2.out; omega))
        simp only [hA.out, ← hha.out] at HV1
        have x9 := (EE.out.bx (w.heap.size, (plL p ⟨.slice a1 p.mets.length c1, .slice a2 p.wins.length c2, .slice a3 p.crons.length c3, .slice a4 N c4, .slice a5 p.fin.parts.length c5⟩)) (by simp)).1.cell 9 _ rfl
        have xl := (EE.out.bx (w.heap.size, (plL p ⟨.slice a1 p.mets.length c1, .slice a2 p.wins.length c2, .slice a3 p.crons.length c3, .slice a4 N c4, .slice a5 p.fin.parts.length c5⟩)) (by simp)).1.lt
        clear HTt HHt
        go_wp2_with fail
        clear x9 xl
        obtain ⟨D1, hD1⟩ : ∃ CC9, Hid (CC9 = cat D A) := ⟨_, chid rfl⟩
        obtain ⟨m1, hm1⟩ : ∃ nn9, Hid (nn9 = D1.length) := ⟨_, chid rfl⟩
        obtain ⟨g1, hg1⟩ : ∃ gg9, Hid (gg9 = max h (ha + 0)) := ⟨_, chid rfl⟩
        have HlD1 : Hid (D1.length = D.length + A.length) := chid (by rw [hD1.out, cat_len]; (first | done | rfl))
        have HSk : Hid (∀ L' PS' K' vk' u, Env mb (mft mb (.slice none 0 0)) W L' PS' K' vk' u → (∀ pz9, pz9 ∈ [(w.heap.size, (plL p ⟨.slice a1 p.mets.length c1, .slice a2 p.wins.length c2, .slice a3 p.crons.length c3, .slice a4 N c4, .slice a5 p.fin.parts.length c5⟩)), (w.heap.size + 1, (pgL pg0 ⟨.slice none 0 0, .slice none 0 0, .slice none 0 0, .slice none 0 0⟩))] → pz9 ∈ L') → (fun w' => w'.cell? ⟨w.heap.size, 10, none⟩ = some (.int .i64 p.fin.op) ∧ w'.cell? ⟨w.heap.size, 11, none⟩ = some (.int .i64 p.fin.n) ∧ w'.cell? ⟨w.heap.size, 12, none⟩ = some (.int .i64 p.fin.m) ∧ w'.cell? ⟨w.heap.size, 13, none⟩ = some (.slice a5 p.fin.parts.length c5)) u ∧ w.heap.size < u.heap.size) := chid (fun _ _ _ _ u hE hL => ⟨⟨(hE.bx (w.heap.size, (plL p ⟨.slice a1 p.mets.length c1, .slice a2 p.wins.length c2, .slice a3 p.crons.length c3, .slice a4 N c4, .slice a5 p.fin.parts.length c5⟩)) (hL _ (by simp))).1.cell 10 _ rfl, (hE.bx (w.heap.size, (plL p ⟨.slice a1 p.mets.length c1, .slice a2 p.wins.length c2, .slice a3 p.crons.length c3, .slice a4 N c4, .slice a5 p.fin.parts.length c5⟩)) (hL _ (by simp))).1.cell 11 _ rfl, (hE.bx (w.heap.size, (plL p ⟨.slice a1 p.mets.length c1, .slice a2 p.wins.length c2, .slice a3 p.crons.length c3, .slice a4 N c4, .slice a5 p.fin.parts.length c5⟩)) (hL _ (by simp))).1.cell 12 _ rfl, (hE.bx (w.heap.size, (plL p ⟨.slice a1 p.mets.length c1, .slice a2 p.wins.length c2, .slice a3 p.crons.length c3, .slice a4 N c4, .slice a5 p.fin.parts.length c5⟩)) (hL _ (by simp))).1.cell 13 _ rfl⟩, (hE.bx (w.heap.size, (plL p ⟨.slice a1 p.mets.length c1, .slice a2 p.wins.length c2, .slice a3 p.crons.length c3, .slice a4 N c4, .slice a5 p.fin.parts.length c5⟩)) (hL _ (by simp))).1.lt⟩)
        have hS9 := HSk.out _ _ _ _ _ EE.out (by simp)
        have x110 := hS9.1.1
        have x111 := hS9.1.2.1
        have x112 := hS9.1.2.2.1
        have x113 := hS9.1.2.2.2
        have xl := hS9.2
        clear hS9
        apply viaQ2 (fun _ _ aQ cQ w' => ∃ vk', Env mb (mft mb (.slice none 0 0)) W ((od, [.slice aQ m1 cQ, .int .i64 (g1 : Nat)]) :: [(w.heap.size, (plL p ⟨.slice a1 p.mets.length c1, .slice a2 p.wins.length c2, .slice a3 p.crons.length c3, .slice a4 N c4, .slice a5 p.fin.parts.length c5⟩)), (w.heap.size + 1, (pgL pg0 ⟨.slice none 0 0, .slice none 0 0, .slice none 0 0, .slice none 0 0⟩))]) ((D1, .slice aQ m1 cQ) :: []) K1 vk' w')
        case hreg =>
          have ED := chid (EE.out.next (bdr wr))
          refine wp_region_held_drew (S := (fun w' => w'.cell? ⟨w.heap.size, 10, none⟩ = some (.int .i64 p.fin.op) ∧ w'.cell? ⟨w.heap.size, 11, none⟩ = some (.int .i64 p.fin.n) ∧ w'.cell? ⟨w.heap.size, 12, none⟩ = some (.int .i64 p.fin.m) ∧ w'.cell? ⟨w.heap.size, 13, none⟩ = some (.slice a5 p.fin.parts.length c5))) (by kernel_rfl) ((HSk.out _ _ _ _ _ ED.out (by simp)).1) (fun hS0 => ?_)
          refine wpAnyH_take (i := 1) (v := .pointer (some ⟨mb, 0, none⟩)) rfl (by kernel_rfl) (by kernel_rfl) (by kernel_rfl) (fun _ _ _ h => h) (Or.inl ⟨rfl, fun w' hS' => ?_⟩) hS0 ?_
          · obtain ⟨q0, q1, q2, q3⟩ := hS'
            go_simp
          refine wpAnyH_take (i := 2) (v := .pointer (some ⟨w.heap.size, 10, none⟩)) rfl (by kernel_rfl) (by kernel_rfl) (by kernel_rfl) (fun _ _ _ h => h) (Or.inl ⟨rfl, fun w' hS' => ?_⟩) hS0 ?_
          · obtain ⟨q0, q1, q2, q3⟩ := hS'
            go_simp
          refine wpAnyH_take (i := 3) (v := .agg #[.int .i64 p.fin.op, .int .i64 p.fin.n, .int .i64 p.fin.m, .slice a5 p.fin.parts.length c5]) rfl (by kernel_rfl) (by kernel_rfl) (by kernel_rfl) (fun _ _ _ h => h) (Or.inl ⟨rfl, fun w' hS' => ?_⟩) hS0 ?_
          · obtain ⟨q0, q1, q2, q3⟩ := hS'
            go_simp
          refine wpAnyH_ready (rs := [0, 4]) (by kernel_rfl) (by simp) (AllReadyH.cons (i := 0) rfl (fun K hK => ?_) (AllReadyH.cons (i := 4) rfl (fun K hK => ?_) AllReadyH.nil))
          · skip
            have bo := (ED.out.bx (od, [.slice a D.length c, .int .i64 (h : Nat)]) (by simp)).1
            have d0 := bo.cell 0 _ rfl
            have d1 := bo.cell 1 _ rfl
            have dl := bo.lt
            clear bo
            rw [if_pos (show Region.wanted _ _ = true from rfl)]
            go_simp
            refine hK.out _ _ hS0 (fun _ => ?_)
            clear hK d0 d1 dl
            refine wpAnyH_ready (rs := [4]) (by kernel_rfl) (by simp) (AllReadyH.cons (i := 4) rfl (fun K hK => ?_) AllReadyH.nil)
            refine step_e rfl (estep_of ED.out (HV1.out _ _ (ED.out.core HSf.out) ED.out.mw.mkr) A.length rfl) (by first | rfl | go_simp) ?_
            intro u w1 hu
            obtain ⟨vkP, aP, cP, rfl, E1⟩ := hu
            have hS1 := (HSk.out _ _ _ _ _ E1 (by simp)).1
            refine hK.out _ _ hS1 (fun _ => ?_)
            clear hK
            refine wpAnyH_ready (rs := [5]) (by kernel_rfl) (by simp) (AllReadyH.cons (i := 5) rfl (fun K hK => ?_) AllReadyH.nil)
            refine step_e rfl (ethen_e E1 D A h ha 0 (.slice a D.length c) _ (by simp) List.mem_cons_self (by have := HSz.out; have := HSz2.out; have := HlD1.out; (try simp only [List.length_singleton]); omega) (by have := HHm.out; have := HHb.out; have := hg1.out; omega) HJA.out D1 hD1.out m1 hm1.out g1 hg1.out) (by first | rfl | go_simp) ?_
            intro u w2 hu
            obtain ⟨vkQ, aQ, cQ, rfl, E2⟩ := hu
            have E3 := chid (E2.put2 (x := .slice aQ m1 cQ) (y := .int .i64 (g1 : Nat)) (HNe.out) (HOd.out))
            have bo := (E2.bx (od, [.slice a D.length c, .int .i64 (h : Nat)]) (by simp)).1
            have z0 := bo.cell 0 _ rfl
            have z1 := bo.cell 1 _ rfl
            have zf0 := bo.free 0 (by simp)
            have zf1 := bo.free 1 (by simp)
            have zl := bo.lt
            clear bo
            have hS2 := (HSk.out _ _ _ _ _ E2 (by simp)).1
            have hS3 := chid (HSk.out _ _ _ _ _ E3.out (by simp)).1
            refine hK.out _ _ hS2 (fun _ => ?_)
            clear hK hS2
            refine wpAnyH_ready (rs := [6]) (by kernel_rfl) (by simp) (AllReadyH.cons (i := 6) rfl (fun K hK => ?_) AllReadyH.nil)
            rw [if_pos (show Region.wanted _ _ = true from rfl)]
            go_simp
            refine hK.out _ _ hS3.out (fun _ => ?_)
            clear hK
            refine wpAnyH_done (by kernel_rfl) ?_ _
            exact ⟨aP, cP, aQ, cQ, rfl, _, E3.out.sub (fun _ h => h) (fun q hq => (List.mem_cons.1 hq).elim (fun e => e ▸ List.mem_cons_self) (fun h => List.mem_cons_of_mem _ (List.mem_cons_of_mem _ (List.mem_cons_of_mem _ h))))⟩
          · skip
            refine step_e rfl (estep_of ED.out (HV1.out _ _ (ED.out.core HSf.out) ED.out.mw.mkr) A.length rfl) (by first | rfl | go_simp) ?_
            intro u w1 hu
            obtain ⟨vkP, aP, cP, rfl, E1⟩ := hu
            have hS1 := (HSk.out _ _ _ _ _ E1 (by simp)).1
            refine hK.out _ _ hS1 (fun _ => ?_)
            clear hK
            refine wpAnyH_ready (rs := [0]) (by kernel_rfl) (by simp) (AllReadyH.cons (i := 0) rfl (fun K hK => ?_) AllReadyH.nil)
            have bo := (E1.bx (od, [.slice a D.length c, .int .i64 (h : Nat)]) (by simp)).1
            have d0 := bo.cell 0 _ rfl
            have d1 := bo.cell 1 _ rfl
            have dl := bo.lt
            clear bo
            rw [if_pos (show Region.wanted _ _ = true from rfl)]
            go_simp
            refine hK.out _ _ hS1 (fun _ => ?_)
            clear hK d0 d1 dl
            refine wpAnyH_ready (rs := [5]) (by kernel_rfl) (by simp) (AllReadyH.cons (i := 5) rfl (fun K hK => ?_) AllReadyH.nil)
            refine step_e rfl (ethen_e E1 D A h ha 0 (.slice a D.length c) _ (by simp) List.mem_cons_self (by have := HSz.out; have := HSz2.out; have := HlD1.out; (try simp only [List.length_singleton]); omega) (by have := HHm.out; have := HHb.out; have := hg1.out; omega) HJA.out D1 hD1.out m1 hm1.out g1 hg1.out) (by first | rfl | go_simp) ?_
            intro u w2 hu
            obtain ⟨vkQ, aQ, cQ, rfl, E2⟩ := hu
            have E3 := chid (E2.put2 (x := .slice aQ m1 cQ) (y := .int .i64 (g1 : Nat)) (HNe.out) (HOd.out))
            have bo := (E2.bx (od, [.slice a D.length c, .int .i64 (h : Nat)]) (by simp)).1
            have z0 := bo.cell 0 _ rfl
            have z1 := bo.cell 1 _ rfl
            have zf0 := bo.free 0 (by simp)
            have zf1 := bo.free 1 (by simp)
            have zl := bo.lt
            clear bo
            have hS2 := (HSk.out _ _ _ _ _ E2 (by simp)).1
            have hS3 := chid (HSk.out _ _ _ _ _ E3.out (by simp)).1
            refine hK.out _ _ hS2 (fun _ => ?_)
            clear hK hS2
            refine wpAnyH_ready (rs := [6]) (by kernel_rfl) (by simp) (AllReadyH.cons (i := 6) rfl (fun K hK => ?_) AllReadyH.nil)
            rw [if_pos (show Region.wanted _ _ = true from rfl)]
            go_simp
            refine hK.out _ _ hS3.out (fun _ => ?_)
            clear hK
            refine wpAnyH_done (by kernel_rfl) ?_ _
            exact ⟨aP, cP, aQ, cQ, rfl, _, E3.out.sub (fun _ h => h) (fun q hq => (List.mem_cons.1 hq).elim (fun e => e ▸ List.mem_cons_self) (fun h => List.mem_cons_of_mem _ (List.mem_cons_of_mem _ (List.mem_cons_of_mem _ h))))⟩
        case hrest =>
        intro _ _ aR1 cR1 wR1 hG
        obtain ⟨vkR1, E9⟩ := hG
        clear HSk x110 x111 x112 x113 xl
        replace EE := chid E9
        clear E9
        obtain ⟨ka, kc, hka⟩ := own_shape EE.out.mw.mkr.cons
        subst hka
        have HPg : Hid (progF p = ⟨p.mets.length, p.ru, K1, p.wins, p.crons, p.loc, (g1 : Nat), D1⟩) := chid (by
          have h7 := hT.out
          have h8 := HTn.out
          have h9 : g1 = plHgt p := by have := hg1.out; have := HHb.out; have := hHh.out; omega
          rw [nil_cat] at h7
          unfold progF
          rw [h7.1, h7.2, ← h8.1, ← h8.2, ← hD1.out, h9])
        have HYr := chid (EE.out.bx (w.heap.size + 1, (pgL pg0 ⟨.slice none 0 0, .slice none 0 0, .slice none 0 0, .slice none 0 0⟩)) (by simp)).1
        have HMk := chid EE.out.mw.mkr
        have HBl : Hid (Below w.heap.size w wR1) := chid (BWm.out.trans (EE.out.mw.turn.below (fun k hk => by
          rcases mft_mem.1 hk with rfl | hk
          · have := HMb.out; omega
          · cases hk) BWm.out.size))
        have k0 := HMk.out.box.cell 0 _ rfl
        have kl := HMk.out.box.lt
        have d0 := (EE.out.bx (od, [.slice aR1 m1 cR1, .int .i64 (g1 : Nat)]) (by simp)).1.cell 0 _ rfl
        have d1 := (EE.out.bx (od, [.slice aR1 m1 cR1, .int .i64 (g1 : Nat)]) (by simp)).1.cell 1 _ rfl
        have dl := (EE.out.bx (od, [.slice aR1 m1 cR1, .int .i64 (g1 : Nat)]) (by simp)).1.lt
        by_cases hL : largeB (progF p) = true
        · have hRe : Hid (R = (pg0, 14)) := chid (by rw [HR.out, if_pos hL])
          have hor : (16384 : Int) < (m1 : Int) ∨ (16384 : Int) < (K1.length : Int) ∨ (4096 : Int) < (g1 : Int) := by
            rw [HPg.out] at hL
            unfold largeB at hL
            simp only [Bool.or_eq_true, decide_eq_true_eq] at hL
            have := hm1.out
            omega
          clear hL
          have y0 := HYr.out.cell 0 _ rfl
          have f0 := HYr.out.free 0 (by simp)
          have y1 := HYr.out.cell 1 _ rfl
          have f1 := HYr.out.free 1 (by simp)
          have y2 := HYr.out.cell 2 _ rfl
          have f2 := HYr.out.free 2 (by simp)
          have y3 := HYr.out.cell 3 _ rfl
          have f3 := HYr.out.free 3 (by simp)
          have y4 := HYr.out.cell 4 _ rfl
          have f4 := HYr.out.free 4 (by simp)
          have y5 := HYr.out.cell 5 _ rfl
          have f5 := HYr.out.free 5 (by simp)
          have y6 := HYr.out.cell 6 _ rfl
          have f6 := HYr.out.free 6 (by simp)
          have y7 := HYr.out.cell 7 _ rfl
          have f7 := HYr.out.free 7 (by simp)
          have y8 := HYr.out.cell 8 _ rfl
          have f8 := HYr.out.free 8 (by simp)
          have y9 := HYr.out.cell 9 _ rfl
          have f9 := HYr.out.free 9 (by simp)
          have y10 := HYr.out.cell 10 _ rfl
          have f10 := HYr.out.free 10 (by simp)
          have y11 := HYr.out.cell 11 _ rfl
          have f11 := HYr.out.free 11 (by simp)
          have yl := HYr.out.lt
          by_cases ho1 : (16384 : Int) < (m1 : Int)
          · clear hor
            go_wp2_with fail
            refine bodyPost_ret (v := .tuple #[pgV pg0 ⟨.slice none 0 0, .slice none 0 0, .slice none 0 0, .slice none 0 0⟩, .int .i64 14]) (by simp [results, Tryd.results6, go_sem, pg0, *]) rfl ?_
            rw [hRe.out]
            exact ⟨_, rfl, (pg0_at _ 0).rd, below_one HBl.out (set12_turn wR1 _ _ _ _ _ _ _ _ _ _ _ _ _) (by omega)⟩
          · by_cases ho2 : (16384 : Int) < (K1.length : Int)
            · clear hor
              go_wp2_with fail
              refine bodyPost_ret (v := .tuple #[pgV pg0 ⟨.slice none 0 0, .slice none 0 0, .slice none 0 0, .slice none 0 0⟩, .int .i64 14]) (by simp [results, Tryd.results6, go_sem, pg0, *]) rfl ?_
              rw [hRe.out]
              exact ⟨_, rfl, (pg0_at _ 0).rd, below_one HBl.out (set12_turn wR1 _ _ _ _ _ _ _ _ _ _ _ _ _) (by omega)⟩
            · have ho3 : (4096 : Int) < (g1 : Int) := by omega
              clear hor
              go_wp2_with fail
              refine bodyPost_ret (v := .tuple #[pgV pg0 ⟨.slice none 0 0, .slice none 0 0, .slice none 0 0, .slice none 0 0⟩, .int .i64 14]) (by simp [results, Tryd.results6, go_sem, pg0, *]) rfl ?_
              rw [hRe.out]
              exact ⟨_, rfl, (pg0_at _ 0).rd, below_one HBl.out (set12_turn wR1 _ _ _ _ _ _ _ _ _ _ _ _ _) (by omega)⟩
        · have hRe : Hid (R = (progF p, 0)) := chid (by rw [HR.out, if_neg hL])
          have hor : ¬ (16384 : Int) < (m1 : Int) ∧ ¬ (16384 : Int) < (K1.length : Int) ∧ ¬ (4096 : Int) < (g1 : Int) := by
            rw [HPg.out] at hL
            unfold largeB at hL
            simp only [Bool.or_eq_true, decide_eq_true_eq] at hL
            have := hm1.out
            omega
          obtain ⟨ho1, ho2, ho3⟩ := hor
          clear hL
          have q0 := HYr.out.cell 0 _ rfl
          have S0 := (EE.out.bx (w.heap.size, (plL p ⟨.slice a1 p.mets.length c1, .slice a2 p.wins.length c2, .slice a3 p.crons.length c3, .slice a4 N c4, .slice a5 p.fin.parts.length c5⟩)) (by simp)).1
          have x0 := S0.cell 0 _ rfl
          have x1 := S0.cell 1 _ rfl
          have x2 := S0.cell 2 _ rfl
          have x3 := S0.cell 3 _ rfl
          have x4 := S0.cell 4 _ rfl
          have x5 := S0.cell 5 _ rfl
          have x6 := S0.cell 6 _ rfl
          have x7 := S0.cell 7 _ rfl
          have x8 := S0.cell 8 _ rfl
          have xl := S0.lt
          have nm1 : mb ≠ w.heap.size + 1 := by have := HMb.out; omega
          have nm1' : w.heap.size + 1 ≠ mb := fun e => nm1 e.symm
          have no1 : od ≠ w.heap.size + 1 := by have := HMb.out; omega
          have no1' : w.heap.size + 1 ≠ od := fun e => no1 e.symm
          clear q0 S0
          have y0 := HYr.out.cell 0 _ rfl
          have f0 := HYr.out.free 0 (by simp)
          have y1 := HYr.out.cell 1 _ rfl
          have f1 := HYr.out.free 1 (by simp)
          have y2 := HYr.out.cell 2 _ rfl
          have f2 := HYr.out.free 2 (by simp)
          have y3 := HYr.out.cell 3 _ rfl
          have f3 := HYr.out.free 3 (by simp)
          have y4 := HYr.out.cell 4 _ rfl
          have f4 := HYr.out.free 4 (by simp)
          have y5 := HYr.out.cell 5 _ rfl
          have f5 := HYr.out.free 5 (by simp)
          have y6 := HYr.out.cell 6 _ rfl
          have f6 := HYr.out.free 6 (by simp)
          have y7 := HYr.out.cell 7 _ rfl
          have f7 := HYr.out.free 7 (by simp)
          have y8 := HYr.out.cell 8 _ rfl
          have f8 := HYr.out.free 8 (by simp)
          have y9 := HYr.out.cell 9 _ rfl
          have f9 := HYr.out.free 9 (by simp)
          have y10 := HYr.out.cell 10 _ rfl
          have f10 := HYr.out.free 10 (by simp)
          have y11 := HYr.out.cell 11 _ rfl
          have f11 := HYr.out.free 11 (by simp)
          have yl := HYr.out.lt
          go_wp2_with fail
          go_region_held3 (fun w' => w'.cell? ⟨w.heap.size, 0, none⟩ = some (.slice a1 p.mets.length c1) ∧ w'.cell? ⟨w.heap.size, 1, none⟩ = some (.int .i64 p.ru.mn) ∧ w'.cell? ⟨w.heap.size, 2, none⟩ = some (.int .i64 p.ru.mx) ∧ w'.cell? ⟨w.heap.size, 3, none⟩ = some (.int .i64 p.ru.st) ∧ w'.cell? ⟨w.heap.size, 4, none⟩ = some (.int .i64 p.ru.up) ∧ w'.cell? ⟨w.heap.size, 5, none⟩ = some (.int .i64 p.ru.dn) ∧ w'.cell? ⟨w.heap.size, 6, none⟩ = some (.slice a2 p.wins.length c2) ∧ w'.cell? ⟨w.heap.size, 7, none⟩ = some (.slice a3 p.crons.length c3) ∧ w'.cell? ⟨w.heap.size, 8, none⟩ = some (.int .i64 p.loc) ∧ w'.cell? ⟨mb, 0, none⟩ = some (.slice ka K1.length kc) ∧ w'.cell? ⟨od, 0, none⟩ = some (.slice aR1 m1 cR1) ∧ w'.cell? ⟨od, 1, none⟩ = some (.int .i64 (g1 : Nat))) (simp [go_sem, *]) (fail)
          have HYs : Box _ (w.heap.size + 1) [.int .i64 (p.mets.length : Nat), .int .i64 p.ru.mn, .int .i64 p.ru.mx, .int .i64 p.ru.st, .int .i64 p.ru.up, .int .i64 p.ru.dn, .slice ka K1.length kc, .slice a2 p.wins.length c2, .slice a3 p.crons.length c3, .int .i64 p.loc, .int .i64 (g1 : Nat), .slice aR1 m1 cR1] := Box.next (((((((((((((HYr.out.set 0 (by simp) (.int .i64 (p.mets.length : Nat))).set 1 (by simp) (.int .i64 p.ru.mn)).set 2 (by simp) (.int .i64 p.ru.mx)).set 3 (by simp) (.int .i64 p.ru.st)).set 4 (by simp) (.int .i64 p.ru.up)).set 5 (by simp) (.int .i64 p.ru.dn)).set 6 (by simp) (.slice ka K1.length kc)).set 7 (by simp) (.slice a2 p.wins.length c2)).set 8 (by simp) (.slice a3 p.crons.length c3)).set 9 (by simp) (.int .i64 p.loc)).set 10 (by simp) (.int .i64 (g1 : Nat))).set 11 (by simp) (.slice aR1 m1 cR1))) (Below.refl _ _).drew
          have TT := (set12_turn wR1 (w.heap.size + 1) (.int .i64 (p.mets.length : Nat)) (.int .i64 p.ru.mn) (.int .i64 p.ru.mx) (.int .i64 p.ru.st) (.int .i64 p.ru.up) (.int .i64 p.ru.dn) (.slice ka K1.length kc) (.slice a2 p.wins.length c2) (.slice a3 p.crons.length c3) (.int .i64 p.loc) (.int .i64 (g1 : Nat)) (.slice aR1 m1 cR1)).andBelow (Below.refl _ _).drew
          generalize hWf : (World.drew (World.setCell _ _ _)) = Wf at *
          have HTT := chid TT
          clear hWf y0 f0 y1 f1 y2 f2 y3 f3 y4 f4 y5 f5 y6 f6 y7 f7 y8 f8 y9 f9 y10 f10 y11 f11 yl x0 x1 x2 x3 x4 x5 x6 x7 x8 xl k0 kl d0 d1 dl nm1 nm1' no1 no1' TT
          have z0 := HYs.cell 0 _ rfl
          have z1 := HYs.cell 1 _ rfl
          have z2 := HYs.cell 2 _ rfl
          have z3 := HYs.cell 3 _ rfl
          have z4 := HYs.cell 4 _ rfl
          have z5 := HYs.cell 5 _ rfl
          have z6 := HYs.cell 6 _ rfl
          have z7 := HYs.cell 7 _ rfl
          have z8 := HYs.cell 8 _ rfl
          have z9 := HYs.cell 9 _ rfl
          have z10 := HYs.cell 10 _ rfl
          have z11 := HYs.cell 11 _ rfl
          have zl := HYs.lt
          clear HYs
          go_wp2_with fail
          refine bodyPost_ret (v := .tuple #[pgV ⟨p.mets.length, p.ru, K1, p.wins, p.crons, p.loc, (g1 : Nat), D1⟩ ⟨.slice ka K1.length kc, .slice a2 p.wins.length c2, .slice a3 p.crons.length c3, .slice aR1 m1 cR1⟩, .int .i64 0]) (by simp [results, Tryd.results6, go_sem, *]) rfl ?_
          rw [hRe.out, HPg.out]
          have HBf := below_one HBl.out HTT.out (by omega)
          have hp := EE.out.pc (D1, .slice aR1 m1 cR1) (by simp)
          have hgm := (EE.out.bx (w.heap.size + 1, (pgL pg0 ⟨.slice none 0 0, .slice none 0 0, .slice none 0 0, .slice none 0 0⟩)) (by simp)).2
          refine ⟨⟨.slice ka K1.length kc, .slice a2 p.wins.length c2, .slice a3 p.crons.length c3, .slice aR1 m1 cR1⟩, rfl, ⟨mk_in (HMk.out.turn HTT.out (fun i hi hm => hgm (by rw [← List.mem_singleton.1 hm]; exact hi))), RowsK.next HPl.out.wi HBf, RowsK.next HPl.out.cr HBf, pc_in (lo := mb + 1) (own_of_keep hp (fun b hb => HTT.out.block b (hp.lt b hb).2 (fun hm => by have h7 := (hp.lt b hb).1; have h8 := HMb.out; have h9 := List.mem_singleton.1 hm; omega)))⟩, HBf⟩
end Go.Proofs.YtigldebdljfnbaaDoor

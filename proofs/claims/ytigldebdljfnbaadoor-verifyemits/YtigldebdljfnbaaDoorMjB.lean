import Derived.Test.YtigldebdljfnbaaDoorMgB
import Derived.Test.YtigldebdljfnbaaDoorMgP
import Derived.Deep.DeepAppendWide
import Derived.Test.YtigldebdljfnbaaDoorMgM
namespace Go.Proofs.YtigldebdljfnbaaDoor
open Go.RowKit

def flC (xs : List (Co × Value)) : List Value := (xs.map fun x => coL x.1 x.2).flatten
theorem flC_snoc (xs : List (Co × Value)) (x : Co × Value) : flC (xs ++ [x]) = flC xs ++ coL x.1 x.2 := by simp [flC]
theorem flC_len (xs : List (Co × Value)) : (flC xs).length = xs.length * 4 := by
  induction xs with
  | nil => rfl
  | cons x r ih => simp only [flC, List.map_cons, List.flatten_cons, List.length_append, List.length_cons] at ih ⊢; simp at ih ⊢; omega
theorem flC_at : ∀ (xs : List (Co × Value)) (i : Nat) (hi : i < xs.length) (j : Nat) (u : Value), (coL xs[i].1 xs[i].2)[j]? = some u → (flC xs)[i * 4 + j]? = some u
  | x :: r, 0, _, j, u, h => by
    have hj : j < 4 := by have := (List.getElem?_eq_some_iff.1 h).1; simpa using this
    simp only [flC, List.map_cons, List.flatten_cons, Nat.zero_mul, Nat.zero_add]
    rw [List.getElem?_append_left (by simpa using hj)]
    exact h
  | x :: r, i + 1, hi, j, u, h => by
    have := flC_at r i (by simpa using hi) j u (by simpa using h)
    simp only [flC, List.map_cons, List.flatten_cons] at this ⊢
    rw [List.getElem?_append_right (by simp; omega)]
    have e : (i + 1) * 4 + j - (coL x.1 x.2).length = i * 4 + j := by simp; omega
    rw [e]
    exact this
theorem info_core : (Tryd.prog.info? 30).map (fun i => (i.zero, i.size, i.bytes)) = some (some (coV ⟨0, 0, 0, []⟩ (.slice none 0 0)), 4, 48) := by kernel_rfl
theorem info_core' : ∃ i, Tryd.prog.info? 30 = some i ∧ i.zero = some (coV ⟨0, 0, 0, []⟩ (.slice none 0 0)) ∧ i.size = 4 ∧ i.bytes = 48 := by
  have h := info_core
  cases hi : Tryd.prog.info? 30 with
  | none => rw [hi] at h; cases h
  | some i =>
    rw [hi] at h
    simp only [Option.map_some, Option.some.injEq, Prod.mk.injEq] at h
    exact ⟨i, rfl, h.1, h.2.1, h.2.2⟩
theorem cat_of_own {w : World} {B : Nat} {v : Value} {xs : List (Co × Value)} (h : w.ownsRow B 30 4 v xs.length (flC xs)) (hs : ∀ x, x ∈ xs → CSits w x.1 x.2) : CAt w v (xs.map (·.1)) := by
  obtain ⟨h1, ⟨h2, h3⟩ | ⟨g, cap, cur, h2, h3, h4, h5, h6, h7, h8⟩⟩ := h
  · have : xs = [] := List.eq_nil_of_length_eq_zero h3
    subst this
    exact ⟨none, 0, by rw [h2]; rfl, Nat.le_refl _, by omega, .inl rfl⟩
  · have BX : Box w g (flC xs) := (Box.ofBlock h4).part (by rw [← h8]; exact List.take_prefix _ _)
    refine ⟨_, cap, by rw [h2]; simp, by simpa using h5, h6, .inr ⟨g, 0, rfl, BX.lt, fun i hi => ?_⟩⟩
    have hi' : i < xs.length := by simpa using hi
    have hc := fun j u h => BX.cell (i * 4 + j) u (flC_at xs i hi' j u h)
    refine ⟨xs[i].2, ?_, by simpa using hs _ (List.getElem_mem hi')⟩
    simp only [List.getElem_map, Nat.zero_add]
    exact ⟨hc 0 _ rfl, hc 1 _ rfl, hc 2 _ rfl, hc 3 _ rfl⟩
theorem ce_four_new (w : World) (a b c d : Value) (t : TypeId) : ∀ j u, [a, b, c, d][j]? = some u → (w.alloc (.cells #[a, b, c, d] t)).cell? ((⟨w.heap.size, 0, none⟩ : Addr).add j) = some u := by
  intro j u hj
  match j, hj with
  | 0, hj => simp at hj; subst hj; simp [Addr.add]
  | 1, hj => simp at hj; subst hj; simp [Addr.add]
  | 2, hj => simp at hj; subst hj; simp [Addr.add]
  | 3, hj => simp at hj; subst hj; simp [Addr.add]
  | j + 4, hj => simp at hj

def twoOf (g : Co × Co) : List Co := [g.1, g.2]
def coresP (p : PlP) : List Co := (p.gs.map twoOf).flatten ++ [p.fin]
theorem below_grown {B : Nat} {w W w' : World} {v : Value} {n size : Nat} {e : TypeId} {xs : List Value} (h : Below B w W) (hown : W.ownsRow B e size v n xs) (hg : W.grownBy w' v.ownBlock) (hB : B ≤ W.heap.size) : Below B w w' :=
  h.trans ⟨hg.os, hg.tape, hg.output, hg.size, fun k hk => hg.block k (by omega) (fun e => by have := hown.lt k e.symm; omega)⟩
set_option maxHeartbeats 2000000 in
set_option maxRecDepth 20000 in
theorem rCores_c (p : PlP) (v : PlV) (w : World) (hs : PlAt w p v) (hL : p.gs.length * 96 ≤ 140737488355328) : Calls Tryd.prog 19 #[plV p v] w fun e w' => ∃ u, e = .returned u ∧ CAt w' u (coresP p) ∧ Below w.heap.size w w' := by
  have HG := chid hs.gs
  have HFi := chid hs.fi
  obtain ⟨a1, c1, a2, c2, a3, c3, a4, c4, a5, c5, rfl, g1, g2, g3, g4⟩ := hs.shapes
  dsimp only at HG HFi
  obtain ⟨i0, hi, hz0, hz1, hz2⟩ := info_core'
  have X0 := chid (Box.new w (plL p ⟨.slice a1 p.mets.length c1, .slice a2 p.wins.length c2, .slice a3 p.crons.length c3, .slice a4 p.gs.length c4, .slice a5 p.fin.parts.length c5⟩) 32)
  have B0 := chid ((Below.refl w.heap.size w).alloc (Nat.le_refl _) (.cells (plL p ⟨.slice a1 p.mets.length c1, .slice a2 p.wins.length c2, .slice a3 p.crons.length c3, .slice a4 p.gs.length c4, .slice a5 p.fin.parts.length c5⟩).toArray 32))
  obtain ⟨N, hN⟩ : ∃ N, Hid (N = p.gs.length) := ⟨_, rfl⟩
  rw [← hN.out] at X0 B0 hL g4 ⊢
  have HC := chid (show coresP p = (p.gs.map twoOf).flatten ++ [p.fin] from rfl)
  generalize coresP p = C at *
  generalize p.gs = gs at *
  clear hs g1 g2 g3
  go_enter Tryd.func19, Tryd.ntmps19
  go_wp2_with fail
  generalize hw0 : w.alloc _ = w0 at *
  clear hw0
  go_loopw [3, 4] (fun l i wr => ∃ (k : Nat) (xs : List (Co × Value)), i = .int .i64 (k : Nat) ∧ k ≤ N ∧ Hid (xs.length = 2 * k) ∧ Hid (xs.map (·.1) = ((gs.take k).map twoOf).flatten) ∧ Hid (wr.ownsRow w0.heap.size 30 4 l xs.length (flC xs)) ∧ Hid (∀ x, x ∈ xs → CSits w x.1 x.2) ∧ Hid (Below w0.heap.size w0 wr)) (fun _ i _ => match i with | .int _ p => ((N : Int) - p).toNat | _ => 0)
  case atStart => exact ⟨0, [], rfl, by omega, chid rfl, chid rfl, World.ownsRow_nil _ _ _ _, (fun x hx => by cases hx), Below.refl _ _⟩
  case round =>
    obtain ⟨k, xs, rfl, hk, HXL, HX, HO, HXS, HB⟩ := hrel
    have HBS := chid HB.out.size
    have HBw := chid (cbelow_on B0.out HB.out B0.out.size)
    have X := X0.out.next HB.out
    have x9 := X.cell 9 _ rfl
    have xl := X.lt
    by_cases hlt : k < N
    · have hlt' : (k : Int) < (N : Int) := by omega
      have hl1 : k < gs.length := by rw [← hN.out]; exact hlt
      obtain ⟨b, off, cap', hv, hle, -, hbl, hx⟩ := HG.out.open (by omega)
      simp only [Value.slice.injEq] at hv
      obtain ⟨rfl, -, rfl⟩ := hv
      obtain ⟨u1, u2, f1, f2, s1, s2⟩ := hx k hl1
      have y0 := keepc HBw.out f1.c0
      have y1 := keepc HBw.out f1.c1
      have y2 := keepc HBw.out f1.c2
      have y3 := keepc HBw.out f1.c3
      have HT : Hid (((gs.take (k + 1)).map twoOf).flatten = ((gs.take k).map twoOf).flatten ++ [gs[k].1, gs[k].2]) := by
        show _ = _
        rw [List.take_succ_eq_append_getElem hl1]
        simp only [List.map_append, List.flatten_append, List.map_cons, List.map_nil, List.flatten_cons, List.flatten_nil, List.append_nil]
        rfl
      have HF2 := chid f2
      have S1 := chid s1
      have S2 := chid s2
      obtain ⟨au, cu, rfl, -, -⟩ := s1.parts.shape
      obtain ⟨av, cv, rfl, -, -⟩ := s2.parts.shape
      have lbr : b < wr.heap.size := Nat.lt_of_lt_of_le hbl HBw.out.size
      clear hx f1 f2 s1 s2
      generalize gs[k] = g at *
      clear hl1
      obtain ⟨⟨k1, n1, m1, ps1⟩, ⟨k2, n2, m2, ps2⟩⟩ := g
      dsimp only at *
      generalize ps1.length = L1 at *
      generalize ps2.length = L2 at *
      go_wp2_with (at_builtin; refine wpList_append_own_wide _ rfl _ _ 28 rfl w0.heap.size 30 i0 (coV ⟨0, 0, 0, []⟩ (.slice none 0 0)) 4 48 Tryd.underlying28 hi hz0 hz1 hz2 rfl (by decide) _ _ _ rfl (HO.out.alloc _) ⟨_, 0, none⟩ 1 1 [.int .i64 k1, .int .i64 n1, .int .i64 m1, .slice au L1 cu] rfl rfl (by first | exact ce_four_new _ _ _ _ _ _ | (intro jj u hu; simpa using ce_four_new _ _ _ _ _ _ jj u hu)) (by intro u hu; simp at hu; rcases hu with rfl | rfl | rfl | rfl <;> rfl) (by unfold maxLen; have := HXL.out; omega) (by have := HXL.out; omega) (by have := HBS.out; simp; omega) ?_)
      intro v1 w1 ho1 hg1 _
      have B1 := chid (below_grown (HB.out.alloc HB.out.size (.cells #[.int .i64 k1, .int .i64 n1, .int .i64 m1, .slice au L1 cu] 30)) (HO.out.alloc _) hg1 (by have := HB.out.size; simp; omega))
      have O1 : Hid (w1.ownsRow w0.heap.size 30 4 v1 (xs.length + 1) (flC (xs ++ [((⟨k1, n1, m1, ps1⟩ : Co), Value.slice au L1 cu)]))) := by rw [flC_snoc]; exact ho1
      have B1w := chid (cbelow_on B0.out B1.out B0.out.size)
      have X1 := X0.out.next B1.out
      have z9 := X1.cell 9 _ rfl
      have zl := X1.lt
      have q0 := keepc B1w.out HF2.out.c0
      have q1 : w1.cell? ⟨b, off + k * 8 + 5, none⟩ = _ := keepc B1w.out HF2.out.c1
      have q2 : w1.cell? ⟨b, off + k * 8 + 6, none⟩ = _ := keepc B1w.out HF2.out.c2
      have q3 : w1.cell? ⟨b, off + k * 8 + 7, none⟩ = _ := keepc B1w.out HF2.out.c3
      have lb1 : b < w1.heap.size := Nat.lt_of_lt_of_le hbl B1w.out.size
      clear ho1 hg1 X1 X x9 xl y0 y1 y2 y3 HO
      replace HBS := chid B1.out.size
      go_wp2_with (at_builtin; refine wpList_append_own_wide _ rfl _ _ 28 rfl w0.heap.size 30 i0 (coV ⟨0, 0, 0, []⟩ (.slice none 0 0)) 4 48 Tryd.underlying28 hi hz0 hz1 hz2 rfl (by decide) _ _ _ rfl (O1.out.alloc _) ⟨_, 0, none⟩ 1 1 [.int .i64 k2, .int .i64 n2, .int .i64 m2, .slice av L2 cv] rfl rfl (by first | exact ce_four_new _ _ _ _ _ _ | (intro jj u hu; simpa using ce_four_new _ _ _ _ _ _ jj u hu)) (by intro u hu; simp at hu; rcases hu with rfl | rfl | rfl | rfl <;> rfl) (by unfold maxLen; have := HXL.out; omega) (by have := HXL.out; omega) (by have := HBS.out; simp; omega) ?_)
      intro v2 w2 ho2 hg2 _
      have B2 := chid (below_grown (B1.out.alloc B1.out.size (.cells #[.int .i64 k2, .int .i64 n2, .int .i64 m2, .slice av L2 cv] 30)) (O1.out.alloc _) hg2 (by have := B1.out.size; simp; omega))
      have O2 : Hid (w2.ownsRow w0.heap.size 30 4 v2 (xs ++ [((⟨k1, n1, m1, ps1⟩ : Co), Value.slice au L1 cu), ((⟨k2, n2, m2, ps2⟩ : Co), Value.slice av L2 cv)]).length (flC (xs ++ [((⟨k1, n1, m1, ps1⟩ : Co), Value.slice au L1 cu), ((⟨k2, n2, m2, ps2⟩ : Co), Value.slice av L2 cv)]))) := by
        have e : xs ++ [((⟨k1, n1, m1, ps1⟩ : Co), Value.slice au L1 cu), ((⟨k2, n2, m2, ps2⟩ : Co), Value.slice av L2 cv)] = (xs ++ [((⟨k1, n1, m1, ps1⟩ : Co), Value.slice au L1 cu)]) ++ [((⟨k2, n2, m2, ps2⟩ : Co), Value.slice av L2 cv)] := by simp
        rw [e, flC_snoc]
        have e2 : ((xs ++ [((⟨k1, n1, m1, ps1⟩ : Co), Value.slice au L1 cu)]) ++ [((⟨k2, n2, m2, ps2⟩ : Co), Value.slice av L2 cv)]).length = xs.length + 1 + 1 := by simp
        rw [e2]
        exact ho2
      have H3 : Hid ((xs ++ [((⟨k1, n1, m1, ps1⟩ : Co), Value.slice au L1 cu), ((⟨k2, n2, m2, ps2⟩ : Co), Value.slice av L2 cv)]).map (·.1) = ((gs.take (k + 1)).map twoOf).flatten) := by
        show _ = _
        rw [HT.out, ← HX.out, List.map_append]; rfl
      have H4 : Hid (∀ x, x ∈ xs ++ [((⟨k1, n1, m1, ps1⟩ : Co), Value.slice au L1 cu), ((⟨k2, n2, m2, ps2⟩ : Co), Value.slice av L2 cv)] → CSits w x.1 x.2) := fun x hx => by
        rcases List.mem_append.1 hx with h | h
        · exact HXS.out x h
        · simp only [List.mem_cons, List.not_mem_nil, or_false] at h
          rcases h with rfl | rfl
          · exact S1.out
          · exact S2.out
      clear ho2 hg2 z9 zl q0 q1 q2 q3 O1
      go_wp2_with fail
      go_roundw
      case rel => exact ⟨k + 1, _, by go_num, by omega, chid (by have := HXL.out; simp; omega), H3.out, O2.out, H4.out, B2.out⟩
      case measure => simp; omega
    · have hlt' : ¬ (k : Int) < (N : Int) := by omega
      have hkN : k = N := by omega
      have e1 : gs.take k = gs := by rw [hkN, hN.out]; exact List.take_length
      rw [e1] at HX
      have u0 := X.cell 10 _ rfl
      have u1 := X.cell 11 _ rfl
      have u2 := X.cell 12 _ rfl
      have u3 := X.cell 13 _ rfl
      go_wp2_with (at_builtin; refine wpList_append_own_wide _ rfl _ _ 28 rfl w0.heap.size 30 i0 (coV ⟨0, 0, 0, []⟩ (.slice none 0 0)) 4 48 Tryd.underlying28 hi hz0 hz1 hz2 rfl (by decide) _ _ _ rfl (HO.out.alloc _) ⟨_, 0, none⟩ 1 1 [.int .i64 p.fin.op, .int .i64 p.fin.n, .int .i64 p.fin.m, .slice a5 p.fin.parts.length c5] rfl rfl (by first | exact ce_four_new _ _ _ _ _ _ | (intro jj u hu; simpa using ce_four_new _ _ _ _ _ _ jj u hu)) (by intro u hu; simp at hu; rcases hu with rfl | rfl | rfl | rfl <;> rfl) (by unfold maxLen; have := HXL.out; omega) (by have := HXL.out; omega) (by have := HBS.out; simp; omega) ?_)
      intro v1 w1 ho1 hg1 _
      have B1 := chid (below_grown (HB.out.alloc HB.out.size (.cells #[.int .i64 p.fin.op, .int .i64 p.fin.n, .int .i64 p.fin.m, .slice a5 p.fin.parts.length c5] 30)) (HO.out.alloc _) hg1 (by have := HB.out.size; simp; omega))
      have B1w := chid (cbelow_on B0.out B1.out B0.out.size)
      have HA : Hid (CAt w1 v1 C) := by
        have O1 : w1.ownsRow w0.heap.size 30 4 v1 (xs ++ [(p.fin, Value.slice a5 p.fin.parts.length c5)]).length (flC (xs ++ [(p.fin, Value.slice a5 p.fin.parts.length c5)])) := by
          rw [flC_snoc, List.length_append]; exact ho1
        have := cat_of_own O1 (fun x hx => by
          rcases List.mem_append.1 hx with h | h
          · exact (HXS.out x h).next B1w.out
          · simp only [List.mem_cons, List.not_mem_nil, or_false] at h
            subst h
            exact HFi.out.next B1w.out)
        rw [List.map_append, HX.out] at this
        rw [HC.out]
        exact this
      clear ho1 hg1 u0 u1 u2 u3 x9 X
      go_wp2_with fail
      go_ret
      exact ⟨_, rfl, HA.out, B1w.out⟩
end Go.Proofs.YtigldebdljfnbaaDoor

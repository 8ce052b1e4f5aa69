/- The document's Cores: all cores of a plan in one list, and where their parts lie. -/
import Derived.Test.YtpkknifbocfeaaaGreatDoorCkI
namespace Go.Proofs.YtpkknifbocfeaaaGreatDoor
open Go.RowKit

set_option maxHeartbeats 2000000 in
set_option maxRecDepth 20000 in
theorem rCoresQ_c (Q : Nat → Co → Value → Prop) (p : PlP) (v : PlV) (w : World) (hs : PlAt w p v) (hq : GsQ Q w v.gs p.gs) (hf : Q (2 * p.gs.length) p.fin v.fi) (hL : p.gs.length * 96 ≤ 140737488355328) : Calls Tryz.prog 13 #[plV p v] w fun e w' => ∃ u xs, e = .returned u ∧ xs.map (·.1) = coresP p ∧ w'.ownsRow w.heap.size 30 4 u xs.length (flC xs) ∧ (∀ j (h : j < xs.length), Q j xs[j].1 xs[j].2) ∧ Below w.heap.size w w' := by
  have HG := chid hq
  have HFi := chid hf
  obtain ⟨a1, c1, a2, c2, a3, c3, a4, c4, a5, c5, rfl, g1, g2, g3, g4⟩ := hs.shapes
  dsimp only at HG HFi
  obtain ⟨i0, hi, hz0, hz1, hz2⟩ := info_core'
  have X0 := chid (Box.new w (plL p ⟨.slice a1 p.mets.length c1, .slice a2 p.wins.length c2, .slice a3 p.crons.length c3, .slice a4 p.gs.length c4, .slice a5 p.fin.parts.length c5⟩) 32)
  have B0 := chid ((Below.refl w.heap.size w).alloc (Nat.le_refl _) (.cells (plL p ⟨.slice a1 p.mets.length c1, .slice a2 p.wins.length c2, .slice a3 p.crons.length c3, .slice a4 p.gs.length c4, .slice a5 p.fin.parts.length c5⟩).toArray 32))
  obtain ⟨N, hN⟩ : ∃ N, Hid (N = p.gs.length) := ⟨_, rfl⟩
  rw [← hN.out] at X0 B0 hL g4 HFi ⊢
  have HC := chid (show coresP p = (p.gs.map twoOf).flatten ++ [p.fin] from rfl)
  generalize coresP p = C at *
  generalize p.gs = gs at *
  clear hs g1 g2 g3 hq hf
  go_enter Tryz.func13, Tryz.ntmps13
  go_wp2_with fail
  generalize hw0 : w.alloc _ = w0 at *
  clear hw0
  go_loopw [3, 4] (fun l i wr => ∃ (k : Nat) (xs : List (Co × Value)), i = .int .i64 (k : Nat) ∧ k ≤ N ∧ Hid (xs.length = 2 * k) ∧ Hid (xs.map (·.1) = ((gs.take k).map twoOf).flatten) ∧ Hid (wr.ownsRow w0.heap.size 30 4 l xs.length (flC xs)) ∧ Hid (∀ j (h : j < xs.length), Q j xs[j].1 xs[j].2) ∧ Hid (Below w0.heap.size w0 wr)) (fun _ i _ => match i with | .int _ p => ((N : Int) - p).toNat | _ => 0)
  case atStart => exact ⟨0, [], rfl, by omega, chid rfl, chid rfl, World.ownsRow_nil _ _ _ _, (fun j hj => by simp at hj), Below.refl _ _⟩
  case round =>
    obtain ⟨k, xs, rfl, hk, HXL, HX, HO, HXS, HB⟩ := hrel
    have HBS := chid HB.out.size
    have HBw := chid (cbelow_on B0.out HB.out B0.out.size)
    have X := X0.out.next HB.out
    have x9 := X.cell 9 _ rfl
    have xl := X.lt
    by_cases hlt : k < N
    · have hlt' : (k : Int) < (N : Int) := by omega
      have hl1 : k < gs.length := by rw [← hN.out]; exact hlt
      obtain ⟨b, off, cap', hv, hle, -, hbl, hx⟩ := HG.out.open (by omega)
      simp only [Value.slice.injEq] at hv
      obtain ⟨rfl, -, rfl⟩ := hv
      obtain ⟨u1, u2, f1, f2, ⟨s1, o1⟩, ⟨s2, o2⟩⟩ := hx k hl1
      have y0 := keepc HBw.out f1.c0
      have y1 := keepc HBw.out f1.c1
      have y2 := keepc HBw.out f1.c2
      have y3 := keepc HBw.out f1.c3
      have HT : Hid (((gs.take (k + 1)).map twoOf).flatten = ((gs.take k).map twoOf).flatten ++ [gs[k].1, gs[k].2]) := by
        show _ = _
        rw [List.take_succ_eq_append_getElem hl1]
        simp only [List.map_append, List.flatten_append, List.map_cons, List.map_nil, List.flatten_cons, List.flatten_nil, List.append_nil]
        rfl
      have HF2 := chid f2
      have S1 := chid o1
      have S2 := chid o2
      obtain ⟨au, cu, rfl, -, -⟩ := s1.parts.shape
      obtain ⟨av, cv, rfl, -, -⟩ := s2.parts.shape
      have lbr : b < wr.heap.size := Nat.lt_of_lt_of_le hbl HBw.out.size
      clear hx f1 f2 s1 s2 o1 o2
      generalize gs[k] = g at *
      clear hl1
      obtain ⟨⟨k1, n1, m1, ps1⟩, ⟨k2, n2, m2, ps2⟩⟩ := g
      dsimp only at *
      generalize ps1.length = L1 at *
      generalize ps2.length = L2 at *
      go_wp2_with (at_builtin; refine wpList_append_own_wide _ rfl _ _ 28 rfl w0.heap.size 30 i0 (coV ⟨0, 0, 0, []⟩ (.slice none 0 0)) 4 48 Tryz.underlying28 hi hz0 hz1 hz2 rfl (by decide) _ _ _ rfl (HO.out.alloc _) ⟨_, 0, none⟩ 1 1 [.int .i64 k1, .int .i64 n1, .int .i64 m1, .slice au L1 cu] rfl rfl (by first | exact ce_four_new _ _ _ _ _ _ | (intro jj u hu; simpa using ce_four_new _ _ _ _ _ _ jj u hu)) (by intro u hu; simp at hu; rcases hu with rfl | rfl | rfl | rfl <;> rfl) (by unfold maxLen; have := HXL.out; omega) (by have := HXL.out; omega) (by have := HBS.out; simp; omega) ?_)
      intro v1 w1 ho1 hg1 _
      have B1 := chid (below_grown (HB.out.alloc HB.out.size (.cells #[.int .i64 k1, .int .i64 n1, .int .i64 m1, .slice au L1 cu] 30)) (HO.out.alloc _) hg1 (by have := HB.out.size; simp; omega))
      have O1 : Hid (w1.ownsRow w0.heap.size 30 4 v1 (xs.length + 1) (flC (xs ++ [((⟨k1, n1, m1, ps1⟩ : Co), Value.slice au L1 cu)]))) := by rw [flC_snoc]; exact ho1
      have B1w := chid (cbelow_on B0.out B1.out B0.out.size)
      have X1 := X0.out.next B1.out
      have z9 := X1.cell 9 _ rfl
      have zl := X1.lt
      have q0 := keepc B1w.out HF2.out.c0
      have q1 : w1.cell? ⟨b, off + k * 8 + 5, none⟩ = _ := keepc B1w.out HF2.out.c1
      have q2 : w1.cell? ⟨b, off + k * 8 + 6, none⟩ = _ := keepc B1w.out HF2.out.c2
      have q3 : w1.cell? ⟨b, off + k * 8 + 7, none⟩ = _ := keepc B1w.out HF2.out.c3
      have lb1 : b < w1.heap.size := Nat.lt_of_lt_of_le hbl B1w.out.size
      clear ho1 hg1 X1 X x9 xl y0 y1 y2 y3 HO
      replace HBS := chid B1.out.size
      go_wp2_with (at_builtin; refine wpList_append_own_wide _ rfl _ _ 28 rfl w0.heap.size 30 i0 (coV ⟨0, 0, 0, []⟩ (.slice none 0 0)) 4 48 Tryz.underlying28 hi hz0 hz1 hz2 rfl (by decide) _ _ _ rfl (O1.out.alloc _) ⟨_, 0, none⟩ 1 1 [.int .i64 k2, .int .i64 n2, .int .i64 m2, .slice av L2 cv] rfl rfl (by first | exact ce_four_new _ _ _ _ _ _ | (intro jj u hu; simpa using ce_four_new _ _ _ _ _ _ jj u hu)) (by intro u hu; simp at hu; rcases hu with rfl | rfl | rfl | rfl <;> rfl) (by unfold maxLen; have := HXL.out; omega) (by have := HXL.out; omega) (by have := HBS.out; simp; omega) ?_)
      intro v2 w2 ho2 hg2 _
      have B2 := chid (below_grown (B1.out.alloc B1.out.size (.cells #[.int .i64 k2, .int .i64 n2, .int .i64 m2, .slice av L2 cv] 30)) (O1.out.alloc _) hg2 (by have := B1.out.size; simp; omega))
      have O2 : Hid (w2.ownsRow w0.heap.size 30 4 v2 (xs ++ [((⟨k1, n1, m1, ps1⟩ : Co), Value.slice au L1 cu), ((⟨k2, n2, m2, ps2⟩ : Co), Value.slice av L2 cv)]).length (flC (xs ++ [((⟨k1, n1, m1, ps1⟩ : Co), Value.slice au L1 cu), ((⟨k2, n2, m2, ps2⟩ : Co), Value.slice av L2 cv)]))) := by
        have e : xs ++ [((⟨k1, n1, m1, ps1⟩ : Co), Value.slice au L1 cu), ((⟨k2, n2, m2, ps2⟩ : Co), Value.slice av L2 cv)] = (xs ++ [((⟨k1, n1, m1, ps1⟩ : Co), Value.slice au L1 cu)]) ++ [((⟨k2, n2, m2, ps2⟩ : Co), Value.slice av L2 cv)] := by simp
        rw [e, flC_snoc]
        have e2 : ((xs ++ [((⟨k1, n1, m1, ps1⟩ : Co), Value.slice au L1 cu)]) ++ [((⟨k2, n2, m2, ps2⟩ : Co), Value.slice av L2 cv)]).length = xs.length + 1 + 1 := by simp
        rw [e2]
        exact ho2
      have H3 : Hid ((xs ++ [((⟨k1, n1, m1, ps1⟩ : Co), Value.slice au L1 cu), ((⟨k2, n2, m2, ps2⟩ : Co), Value.slice av L2 cv)]).map (·.1) = ((gs.take (k + 1)).map twoOf).flatten) := by
        show _ = _
        rw [HT.out, ← HX.out, List.map_append]; rfl
      have H4 : Hid (∀ j (h : j < (xs ++ [((⟨k1, n1, m1, ps1⟩ : Co), Value.slice au L1 cu), ((⟨k2, n2, m2, ps2⟩ : Co), Value.slice av L2 cv)]).length), Q j (xs ++ [((⟨k1, n1, m1, ps1⟩ : Co), Value.slice au L1 cu), ((⟨k2, n2, m2, ps2⟩ : Co), Value.slice av L2 cv)])[j].1 (xs ++ [((⟨k1, n1, m1, ps1⟩ : Co), Value.slice au L1 cu), ((⟨k2, n2, m2, ps2⟩ : Co), Value.slice av L2 cv)])[j].2) := by
        show ∀ j h, _
        intro j hj
        have hxl := HXL.out
        by_cases e1 : j < xs.length
        · rw [List.getElem_append_left e1]; exact HXS.out j e1
        · by_cases e2 : j = 2 * k
          · rw [List.getElem_append_right (by omega)]
            have e3 : j - xs.length = 0 := by omega
            simp only [e3, List.getElem_cons_zero]
            rw [e2]; exact S1.out
          · have e4 : j = 2 * k + 1 := by simp at hj; omega
            rw [List.getElem_append_right (by omega)]
            have e3 : j - xs.length = 1 := by omega
            simp only [e3, List.getElem_cons_succ, List.getElem_cons_zero]
            rw [e4]; exact S2.out
      clear ho2 hg2 z9 zl q0 q1 q2 q3 O1
      go_wp2_with fail
      go_roundw
      case rel => exact ⟨k + 1, _, by go_num, by omega, chid (by have := HXL.out; simp; omega), H3.out, O2.out, H4.out, B2.out⟩
      case measure => simp; omega
    · have hlt' : ¬ (k : Int) < (N : Int) := by omega
      have hkN : k = N := by omega
      have e1 : gs.take k = gs := by rw [hkN, hN.out]; exact List.take_length
      rw [e1] at HX
      have u0 := X.cell 10 _ rfl
      have u1 := X.cell 11 _ rfl
      have u2 := X.cell 12 _ rfl
      have u3 := X.cell 13 _ rfl
      go_wp2_with (at_builtin; refine wpList_append_own_wide _ rfl _ _ 28 rfl w0.heap.size 30 i0 (coV ⟨0, 0, 0, []⟩ (.slice none 0 0)) 4 48 Tryz.underlying28 hi hz0 hz1 hz2 rfl (by decide) _ _ _ rfl (HO.out.alloc _) ⟨_, 0, none⟩ 1 1 [.int .i64 p.fin.op, .int .i64 p.fin.n, .int .i64 p.fin.m, .slice a5 p.fin.parts.length c5] rfl rfl (by first | exact ce_four_new _ _ _ _ _ _ | (intro jj u hu; simpa using ce_four_new _ _ _ _ _ _ jj u hu)) (by intro u hu; simp at hu; rcases hu with rfl | rfl | rfl | rfl <;> rfl) (by unfold maxLen; have := HXL.out; omega) (by have := HXL.out; omega) (by have := HBS.out; simp; omega) ?_)
      intro v1 w1 ho1 hg1 _
      have B1 := chid (below_grown (HB.out.alloc HB.out.size (.cells #[.int .i64 p.fin.op, .int .i64 p.fin.n, .int .i64 p.fin.m, .slice a5 p.fin.parts.length c5] 30)) (HO.out.alloc _) hg1 (by have := HB.out.size; simp; omega))
      have B1w := chid (cbelow_on B0.out B1.out B0.out.size)
      have HA : Hid (w1.ownsRow w.heap.size 30 4 v1 (xs ++ [(p.fin, Value.slice a5 p.fin.parts.length c5)]).length (flC (xs ++ [(p.fin, Value.slice a5 p.fin.parts.length c5)])) ∧ (xs ++ [(p.fin, Value.slice a5 p.fin.parts.length c5)]).map (·.1) = C ∧ ∀ j (h : j < (xs ++ [(p.fin, Value.slice a5 p.fin.parts.length c5)]).length), Q j (xs ++ [(p.fin, Value.slice a5 p.fin.parts.length c5)])[j].1 (xs ++ [(p.fin, Value.slice a5 p.fin.parts.length c5)])[j].2) := by
        refine chid ⟨?_, ?_, fun j hj => ?_⟩
        · rw [flC_snoc, List.length_append]
          exact own_low _ ho1 B0.out.size
        · rw [List.map_append, HX.out, HC.out]; rfl
        · have hxl := HXL.out
          by_cases e1 : j < xs.length
          · rw [List.getElem_append_left e1]; exact HXS.out j e1
          · have e4 : j = 2 * N := by simp at hj; omega
            rw [List.getElem_append_right (by omega)]
            have e3 : j - xs.length = 0 := by omega
            simp only [e3, List.getElem_cons_zero]
            rw [e4]; exact HFi.out
      clear ho1 hg1 u0 u1 u2 u3 x9 X
      go_wp2_with fail
      go_ret
      exact ⟨_, _, rfl, HA.out.2.1, HA.out.1, HA.out.2.2, B1w.out⟩
end Go.Proofs.YtpkknifbocfeaaaGreatDoor

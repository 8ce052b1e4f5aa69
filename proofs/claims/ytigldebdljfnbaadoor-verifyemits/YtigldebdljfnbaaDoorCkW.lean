/- How great the lists of a plan among the arguments can be: the row's weights say it. -/
import Derived.Test.YtigldebdljfnbaaDoorMgO
import Derived.Test.YtigldebdljfnbaaDoorMgK
namespace Go.Proofs.YtigldebdljfnbaaDoor
open Go.ChangeShapes Go.WideShapes Go.RowKit Go.Deep Go.ChangeMaps

theorem by_core : Tryd.prog.bytesOf 30 = 48 := by kernel_rfl
theorem by_str : Tryd.prog.bytesOf 9 = 16 := by kernel_rfl
theorem by_win : Tryd.prog.bytesOf 71 = 32 := by kernel_rfl
theorem by_cron : Tryd.prog.bytesOf 75 = 40 := by kernel_rfl
section
variable {H : Type} {enc : TypeId × Value → H} {W : World} {base : Nat} {sp : Nat → Bool} {held : Bool}
theorem wt_all {e : TypeId} : ∀ {l : List (DataW H)} {d : DataW H}, d ∈ l → ∀ n ∈ d.weights Tryd.prog e, n ∈ DataW.weightsAll Tryd.prog e l
  | x :: l, d, h, n, hn => by
    rw [DataW.weightsAll]
    rcases List.mem_cons.1 h with rfl | h
    · exact List.mem_append_left _ hn
    · exact List.mem_append_right _ (wt_all h n hn)
theorem wt_slice {fuel : Nat} {t e : TypeId} {ad : Option Addr} {n cap : Nat} {x : DataW H × List MemPlace} (hu : Tryd.prog.underlying t = some (.slice e)) (hf : DataW.trod enc Tryd.prog W base sp held fuel t [.slice ad n cap] = some x)
    (hw : ∀ y, y ∈ DataW.weights Tryd.prog t x.1 → y ≤ reachBytes) (hn : 0 < n) : ∃ a m, ad = some a ∧ m < fuel ∧ n * Tryd.prog.bytesOf e ≤ 140737488355328 ∧ ∀ i, i < n → ∃ cs z, W.cells? base (a.add (i * Tryd.prog.cellsOf e)) (Tryd.prog.cellsOf e) = some cs ∧ DataW.trod enc Tryd.prog W base sp held m e cs = some z ∧ ∀ y, y ∈ DataW.weights Tryd.prog e z.1 → y ≤ reachBytes := by
  rcases DataW.trod_slice hu hf with ⟨h5, _⟩ | ⟨a, len, cap2, elems, rest, m, hmn, h5, hx5, hb5, hl5, hm5, hlen5, hel5, _, _⟩
  · simp only [List.cons.injEq, and_true, Value.slice.injEq] at h5
    omega
  · simp only [List.cons.injEq, and_true, Value.slice.injEq] at h5
    obtain ⟨rfl, rfl, rfl⟩ := h5
    have hz : x.1 = .slice (elems.map (·.1)) (rest.map (·.1)) := congrArg Prod.fst hx5
    have hws : DataW.weights Tryd.prog t x.1 = ((elems.map (·.1)).length + (rest.map (·.1)).length) * Tryd.prog.bytesOf e :: (DataW.weightsAll Tryd.prog e (elems.map (·.1)) ++ DataW.weightsAll Tryd.prog e (rest.map (·.1))) := by
      rw [hz]
      conv => lhs; unfold DataW.weights
      rw [hu]
    rw [hws] at hw
    have h1 := hw _ List.mem_cons_self
    have h2 := reachBytes_lt
    simp only [List.length_map] at h1
    refine ⟨a, m, rfl, by omega, ?_, fun i hi => ?_⟩
    · have h3 : n * Tryd.prog.bytesOf e ≤ (elems.length + rest.length) * Tryd.prog.bytesOf e := Nat.mul_le_mul_right _ (by omega)
      omega
    · have key := hel5 i hi
      rw [List.getElem?_eq_getElem (by omega)] at key
      obtain ⟨cs', g1, g2⟩ := Option.bind_eq_some_iff.1 key
      exact ⟨cs', _, g1, g2, fun y hy => hw y (List.mem_cons_of_mem _ (List.mem_append_left _ (wt_all (List.mem_map_of_mem (List.getElem_mem _)) y hy)))⟩
set_option maxRecDepth 10000 in
theorem wt_core : ∀ (fuel : Nat) (t : Co) (u : Value) (x : DataW H × List MemPlace), DataW.trod enc Tryd.prog W base sp held fuel 30 (coL t u) = some x → (∀ y, y ∈ DataW.weights Tryd.prog 30 x.1 → y ≤ reachBytes) → CSits W t u → CWt t := by
  intro fuel
  induction fuel using Nat.strongRecOn with
  | ind fuel ih =>
    intro t u x hf hw hs
    obtain ⟨xs, m, rfl, hx1, hl, hlen, hf⟩ := DataW.trod_struct Tryd.underlying30 hf
    obtain ⟨z0, z1, z2, z3, rfl⟩ := list_four xs hlen
    have f3 : DataW.trod enc Tryd.prog W base sp held m 28 (((coL t u).drop 3).take (Tryd.prog.cellsOf 28)) = [z0, z1, z2, z3][3]? := hf 3 _ rfl
    simp only [ce_cores, List.drop_zero, List.take_succ_cons, List.take_zero, List.drop_succ_cons, List.getElem?_cons_zero, List.getElem?_cons_succ] at f3
    have hd : x.1 = .agg [z0.1, z1.1, z2.1, z3.1] := congrArg Prod.fst hx1
    have hw3 : ∀ y, y ∈ DataW.weights Tryd.prog 28 z3.1 → y ≤ reachBytes := fun y hy => hw y (by
      rw [hd]
      unfold DataW.weights
      rw [Tryd.underlying30]
      exact DataW.weights_mem_each (j := 3) (t := 28) (d := z3.1) rfl rfl _ hy)
    obtain ⟨ad, cap, rfl, h1, h2, hp⟩ := (csits_iff.1 hs).2
    rw [cwt_iff]
    rcases hp with hp | ⟨b, off, rfl, hb, hp⟩
    · exact ⟨by omega, fun y hy => by rw [List.eq_nil_of_length_eq_zero hp] at hy; cases hy⟩
    rcases Nat.eq_zero_or_pos t.parts.length with h0 | h0
    · exact ⟨by omega, fun y hy => by rw [List.eq_nil_of_length_eq_zero h0] at hy; cases hy⟩
    obtain ⟨a, k, e, hk, hB, hE⟩ := wt_slice Tryd.underlying28 f3 hw3 h0
    cases e
    rw [by_core] at hB
    refine ⟨hB, fun y hy => ?_⟩
    obtain ⟨i, hi, rfl⟩ := List.getElem_of_mem hy
    obtain ⟨cs, z, g1, g2, g3⟩ := hE i hi
    obtain ⟨u', hF, hu'⟩ := hp i hi
    rw [ce_core] at g1
    have hc := cells_at g1
    have hcl := (World.cells?_some g1).2.1
    obtain ⟨v0, v1, v2, v3, rfl⟩ := list_four cs hcl
    have e0 := hc 0 (by decide)
    have e1 := hc 1 (by decide)
    have e2 := hc 2 (by decide)
    have e3 := hc 3 (by decide)
    rw [Nat.add_zero, hF.c0] at e0
    rw [hF.c1] at e1
    rw [hF.c2] at e2
    rw [hF.c3] at e3
    simp only [List.getElem?_cons_zero, List.getElem?_cons_succ, Option.some.injEq] at e0 e1 e2 e3
    subst e0 e1 e2 e3
    exact ih k (by omega) _ _ _ g2 g3 hu'
set_option maxRecDepth 10000 in
theorem wt_guard {fuel : Nat} {g : Co × Co} {u1 u2 : Value} {x : DataW H × List MemPlace} (hf : DataW.trod enc Tryd.prog W base sp held fuel 58 (coL g.1 u1 ++ coL g.2 u2) = some x) (hw : ∀ y, y ∈ DataW.weights Tryd.prog 58 x.1 → y ≤ reachBytes) (h1 : CSits W g.1 u1) (h2 : CSits W g.2 u2) : CWt g.1 ∧ CWt g.2 := by
  obtain ⟨xs, m, rfl, hx1, hl, hlen, hf⟩ := DataW.trod_struct Tryd.underlying58 hf
  obtain ⟨z0, z1, rfl⟩ := list_two xs hlen
  have f0 : DataW.trod enc Tryd.prog W base sp held m 30 (((coL g.1 u1 ++ coL g.2 u2).drop 0).take (Tryd.prog.cellsOf 30)) = [z0, z1][0]? := hf 0 _ rfl
  have f1 : DataW.trod enc Tryd.prog W base sp held m 30 (((coL g.1 u1 ++ coL g.2 u2).drop 4).take (Tryd.prog.cellsOf 30)) = [z0, z1][1]? := hf 1 _ rfl
  simp only [ce_core, List.cons_append, List.nil_append, List.drop_zero, List.take_succ_cons, List.take_zero, List.drop_succ_cons, List.getElem?_cons_zero, List.getElem?_cons_succ] at f0 f1
  have hd : x.1 = .agg [z0.1, z1.1] := congrArg Prod.fst hx1
  have hwj : ∀ j z, [z0.1, z1.1][j]? = some z → [30, 30][j]? = some 30 → ∀ y, y ∈ DataW.weights Tryd.prog 30 z → y ≤ reachBytes := fun j z hz ht y hy => hw y (by
      rw [hd]
      unfold DataW.weights
      rw [Tryd.underlying58]
      exact DataW.weights_mem_each (j := j) (t := 30) (d := z) ht hz _ hy)
  exact ⟨wt_core m _ _ _ f0 (hwj 0 _ rfl rfl) h1, wt_core m _ _ _ f1 (hwj 1 _ rfl rfl) h2⟩
set_option maxRecDepth 10000 in
theorem wt_str {fuel : Nat} {s : ByteArray} {x : DataW H × List MemPlace} (hf : DataW.trod enc Tryd.prog W base sp held fuel 9 [.string s] = some x) (hw : ∀ y, y ∈ DataW.weights Tryd.prog 9 x.1 → y ≤ reachBytes) : s.size ≤ 140737488355328 := by
  obtain ⟨s', e, h, -⟩ := DataW.trod_string Tryd.underlying9 hf
  simp only [List.cons.injEq, and_true, Value.string.injEq] at e
  subst e
  have h1 := hw s.data.toList.length (by rw [h]; unfold DataW.weights; exact List.mem_singleton.2 rfl)
  have h2 := reachBytes_lt
  have h3 : s.data.toList.length = s.size := Array.length_toList
  omega
theorem wt_rows {fuel : Nat} {t e : TypeId} {v : Value} {n k : Nat} {cs : Nat → List Value} {x : DataW H × List MemPlace} (hu : Tryd.prog.underlying t = some (.slice e)) (hf : DataW.trod enc Tryd.prog W base sp held fuel t [v] = some x) (hw : ∀ y, y ∈ DataW.weights Tryd.prog t x.1 → y ≤ reachBytes) (hs : RowsK W v n k cs) : n * Tryd.prog.bytesOf e ≤ 140737488355328 := by
  obtain ⟨ad, cap, rfl, -, -, -⟩ := hs
  rcases Nat.eq_zero_or_pos n with h0 | h0
  · rw [h0]; omega
  · obtain ⟨a, m, -, -, h, -⟩ := wt_slice hu hf hw h0
    exact h
set_option maxRecDepth 10000 in
/-- A plan among the arguments is of a size that memory holds. -/
theorem wt_plan {p : PlP} {u : PlV} {d : DataW H} {ps : List MemPlace} (hd : DataW.Trod enc Tryd.prog W base sp held 32 (plV p u) d ps) (hs : PlAt W p u) (hw : ∀ x, x ∈ DataW.weights Tryd.prog 32 d → x ≤ reachBytes) : PWt p := by
  obtain ⟨fuel, hf⟩ := hd
  simp only [Value.cells] at hf
  obtain ⟨xs, m, rfl, hx1, hl, hlen, hf⟩ := DataW.trod_struct Tryd.underlying32 hf
  obtain ⟨z0, z1, z2, z3, z4, z5, z6, rfl⟩ := list_seven xs hlen
  have f0 : DataW.trod enc Tryd.prog W base sp held m 22 (((plL p u).drop 0).take (Tryd.prog.cellsOf 22)) = [z0, z1, z2, z3, z4, z5, z6][0]? := hf 0 _ rfl
  have f2 : DataW.trod enc Tryd.prog W base sp held m 25 (((plL p u).drop 6).take (Tryd.prog.cellsOf 25)) = [z0, z1, z2, z3, z4, z5, z6][2]? := hf 2 _ rfl
  have f3 : DataW.trod enc Tryd.prog W base sp held m 26 (((plL p u).drop 7).take (Tryd.prog.cellsOf 26)) = [z0, z1, z2, z3, z4, z5, z6][3]? := hf 3 _ rfl
  have f5 : DataW.trod enc Tryd.prog W base sp held m 27 (((plL p u).drop 9).take (Tryd.prog.cellsOf 27)) = [z0, z1, z2, z3, z4, z5, z6][5]? := hf 5 _ rfl
  have f6 : DataW.trod enc Tryd.prog W base sp held m 30 (((plL p u).drop 10).take (Tryd.prog.cellsOf 30)) = [z0, z1, z2, z3, z4, z5, z6][6]? := hf 6 _ rfl
  simp only [ce_core, cd_strings, cd_wins, cd_crons, cd_guards, List.drop_zero, List.take_succ_cons, List.take_zero, List.drop_succ_cons, List.getElem?_cons_zero, List.getElem?_cons_succ] at f0 f2 f3 f5 f6
  have hd2 : d = .agg [z0.1, z1.1, z2.1, z3.1, z4.1, z5.1, z6.1] := congrArg Prod.fst hx1
  have hwj : ∀ (j : Nat) (t : TypeId) (z : DataW H), [z0.1, z1.1, z2.1, z3.1, z4.1, z5.1, z6.1][j]? = some z → [22, 24, 25, 26, 3, 27, 30][j]? = some t → ∀ y, y ∈ DataW.weights Tryd.prog t z → y ≤ reachBytes := fun j t z hz ht y hy => hw y (by
      rw [hd2]
      unfold DataW.weights
      rw [Tryd.underlying32]
      exact DataW.weights_mem_each (j := j) (t := t) (d := z) ht hz _ hy)
  have w0 := hwj 0 _ _ rfl rfl
  have w2 := hwj 2 _ _ rfl rfl
  have w3 := hwj 3 _ _ rfl rfl
  have w5 := hwj 5 _ _ rfl rfl
  have w6 := hwj 6 _ _ rfl rfl
  refine ⟨by have := wt_rows Tryd.underlying22 f0 w0 hs.me; rwa [by_str] at this, ?_, by have := wt_rows Tryd.underlying25 f2 w2 hs.wi; rwa [by_win] at this, by have := wt_rows Tryd.underlying26 f3 w3 hs.cr; rwa [by_cron] at this, ?_, ?_, wt_core m _ _ _ f6 w6 hs.fi⟩
  · intro x hx
    obtain ⟨i, hi, rfl⟩ := List.getElem_of_mem hx
    obtain ⟨b, off, cap, hv, -, -, hb, hc⟩ := RowsK.open hs.me (by omega)
    rw [hv] at f0
    obtain ⟨a, k, e, -, -, hE⟩ := wt_slice Tryd.underlying22 f0 w0 (by omega)
    cases e
    obtain ⟨cs, z, g1, g2, g3⟩ := hE i hi
    rw [cd_string] at g1
    have hcl := (World.cells?_some g1).2.1
    have e0 := cells_at g1 0 (by decide)
    have e1 := hc i hi 0 _ rfl
    rw [e0] at e1
    match cs, hcl with
    | [v0], _ =>
      simp only [List.getElem?_cons_zero, Option.some.injEq] at e1
      subst e1
      have := wt_str g2 g3
      rwa [show p.mets.getD i default = p.mets[i] by simp [List.getD, hi]] at this
  · obtain ⟨ad, cap, hv, -, -, -⟩ := hs.gs
    rw [hv] at f5
    rcases Nat.eq_zero_or_pos p.gs.length with h0 | h0
    · omega
    · obtain ⟨a, m, -, -, h, -⟩ := wt_slice Tryd.underlying27 f5 w5 h0
      rwa [by_guard] at h
  · intro x hx
    obtain ⟨i, hi, rfl⟩ := List.getElem_of_mem hx
    obtain ⟨b, off, cap, hv, -, -, hb, hc⟩ := hs.gs.open (by omega)
    rw [hv] at f5
    obtain ⟨a, k, e, -, -, hE⟩ := wt_slice Tryd.underlying27 f5 w5 (by omega)
    cases e
    obtain ⟨cs, z, g1, g2, g3⟩ := hE i hi
    obtain ⟨u1, u2, F1, F2, s1, s2⟩ := hc i hi
    rw [cd_guard] at g1
    have hcl := (World.cells?_some g1).2.1
    have hq := cells_at g1
    obtain ⟨y0, y1, y2, y3, y4, y5, y6, y7, rfl⟩ := list_eight cs hcl
    have e0 := hq 0 (by decide)
    have e1 := hq 1 (by decide)
    have e2 := hq 2 (by decide)
    have e3 := hq 3 (by decide)
    have e4 := hq 4 (by decide)
    have e5 := hq 5 (by decide)
    have e6 := hq 6 (by decide)
    have e7 := hq 7 (by decide)
    rw [Nat.add_zero, F1.c0] at e0
    rw [F1.c1] at e1
    rw [F1.c2] at e2
    rw [F1.c3] at e3
    rw [F2.c0] at e4
    rw [show off + i * 8 + 5 = off + i * 8 + 4 + 1 by omega, F2.c1] at e5
    rw [show off + i * 8 + 6 = off + i * 8 + 4 + 2 by omega, F2.c2] at e6
    rw [show off + i * 8 + 7 = off + i * 8 + 4 + 3 by omega, F2.c3] at e7
    simp only [List.getElem?_cons_zero, List.getElem?_cons_succ, Option.some.injEq] at e0 e1 e2 e3 e4 e5 e6 e7
    subst e0 e1 e2 e3 e4 e5 e6 e7
    exact wt_guard g2 g3 s1 s2
end
end Go.Proofs.YtigldebdljfnbaaDoor

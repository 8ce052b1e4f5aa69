import Derived.Test.YtigldebdljfnbaaDoorNcC
import Derived.Test.YtigldebdljfnbaaDoorNcB
import Derived.Deep.Cut
import Derived.Deep.CutRange
import Derived.Deep.DeepCutAuto
import Derived.Deep.RegionHeld3
namespace Go.Proofs.YtigldebdljfnbaaDoor
open Go.RowKit

def pcL (o : Option St) : List Value := match o with
  | none => [.bool false, .int .i64 0, .int .i64 0]
  | some s => [.bool true, .int .i64 s.1, .int .i64 s.2]
theorem pcL_len (o : Option St) : (pcL o).length = 3 := by cases o <;> rfl
abbrev stV (s : St) : Value := .agg #[.int .i64 s.1, .int .i64 s.2]
theorem flR_set3 {α : Type} (f : α → List Value) (hf : ∀ a, (f a).length = 3) (y : α) (a b c : Value) (hy : f y = [a, b, c]) : ∀ (l : List α) (i : Nat), i < l.length → (((flR f l).set (i * 3) a).set (i * 3 + 1) b).set (i * 3 + 2) c = flR f (l.set i y)
  | [], i, h => by simp at h
  | x :: l, 0, _ => by
    have h3 := hf x
    match hx : f x, h3 with
    | [p, q, r], _ =>
      show ((((f x ++ flR f l).set (0 * 3) a).set (0 * 3 + 1) b).set (0 * 3 + 2) c) = f y ++ flR f l
      rw [hx, hy]
      rfl
  | x :: l, i + 1, h => by
    have h3 := hf x
    have ih := flR_set3 f hf y a b c hy l i (by simpa using h)
    match hx : f x, h3 with
    | [p, q, r], _ =>
      show ((((f x ++ flR f l).set ((i + 1) * 3) a).set ((i + 1) * 3 + 1) b).set ((i + 1) * 3 + 2) c) = f x ++ flR f (l.set i y)
      rw [hx, ← ih]
      have e1 : (i + 1) * 3 = i * 3 + 3 := by omega
      rw [e1, show i * 3 + 3 + 1 = (i * 3 + 1) + 3 by omega, show i * 3 + 3 + 2 = (i * 3 + 2) + 3 by omega]
      rfl
theorem flR_len {α : Type} (f : α → List Value) (k : Nat) (hf : ∀ a, (f a).length = k) : ∀ l : List α, (flR f l).length = l.length * k
  | [] => by simp [flR]
  | x :: l => by
    have ih := flR_len f k hf l
    show (f x ++ flR f l).length = _
    rw [List.length_append, hf, ih, List.length_cons, Nat.succ_mul]
    omega
structure Wa (w0 w : World) (wb qb : Nat) (g : PgP) (u : PgV) (pl : List (Option St)) : Prop where
  bel : Below w0.heap.size w0 w
  rd : PgRd w0 g u
  box : Box w wb (pgL g u ++ [.slice (some ⟨qb, 0, none⟩) pl.length pl.length])
  pls : Box w qb (flR pcL pl)
  lw : w0.heap.size ≤ wb
  lq : w0.heap.size ≤ qb
  ne : wb ≠ qb
theorem Wa.next {w0 w w' : World} {wb qb : Nat} {g : PgP} {u : PgV} {pl : List (Option St)} (h : Wa w0 w wb qb g u pl) (k : Below w.heap.size w w') : Wa w0 w' wb qb g u pl :=
  ⟨cbelow_on h.bel k h.bel.size, h.rd, h.box.next k, h.pls.next k, h.lw, h.lq, h.ne⟩
theorem Wa.cells {w0 w : World} {wb qb : Nat} {g : PgP} {u : PgV} {pl : List (Option St)} (h : Wa w0 w wb qb g u pl) (i : Nat) (o : Option St) (hi : pl[i]? = some o) (j : Nat) (x : Value) (hx : (pcL o)[j]? = some x) : w.cell? ⟨qb, i * 3 + j, none⟩ = some x :=
  h.pls.cell _ _ (flR_at pcL_len pl i j o x hi hx)
theorem Wa.free {w0 w : World} {wb qb : Nat} {g : PgP} {u : PgV} {pl : List (Option St)} (h : Wa w0 w wb qb g u pl) (i : Nat) (hi : i < pl.length) (j : Nat) (hj : j < 3) : w.frozen? ⟨qb, i * 3 + j, none⟩ = false :=
  h.pls.free _ (by rw [flR_len pcL 3 pcL_len]; omega)
theorem Wa.set {w0 w : World} {wb qb : Nat} {g : PgP} {u : PgV} {pl : List (Option St)} (h : Wa w0 w wb qb g u pl) (i : Nat) (hi : i < pl.length) (s : St) : Wa w0 (((w.setCell ⟨qb, i * 3, none⟩ (.bool true)).setCell ⟨qb, i * 3 + 1, none⟩ (.int .i64 s.1)).setCell ⟨qb, i * 3 + 2, none⟩ (.int .i64 s.2)) wb qb g u (pl.set i (some s)) := by
  have hl := flR_len pcL 3 pcL_len pl
  refine ⟨((h.bel.setCell h.lq _).setCell h.lq _).setCell h.lq _, h.rd, ?_, ?_, h.lw, h.lq, h.ne⟩
  · rw [List.length_set]
    exact ((h.box.other h.ne).other h.ne).other h.ne
  · have h1 := ((h.pls.set (i * 3) (by omega) (.bool true)).set (i * 3 + 1) (by simp; omega) (.int .i64 s.1)).set (i * 3 + 2) (by simp; omega) (.int .i64 s.2)
    rw [flR_set3 pcL pcL_len (some s) _ _ _ rfl pl i hi] at h1
    exact h1
set_option maxRecDepth 20000 in
theorem vbelow_c (a n : Int) (w : World) : Calls Tryd.prog 49 #[.int .i64 a, .int .i64 n] w fun e w' => e = .returned (.bool (belowB a n)) ∧ w' = w := by
  by_cases h : 0 ≤ a
  · have h1 : belowB a n = decide (a < n) := by unfold belowB; simp [h]
    rw [h1]
    go_enter Tryd.func49, Tryd.ntmps49
    go_wp2_with fail
    go_ret
    exact ⟨rfl, rfl⟩
  · have h1 : belowB a n = false := by unfold belowB; simp; omega
    rw [h1]
    go_enter Tryd.func49, Tryd.ntmps49
    go_wp2_with fail
    go_ret
    exact ⟨rfl, rfl⟩
theorem target_c (a : Int) (w : World) : Calls Tryd.prog 45 #[.int .i64 a] w fun e w' => e = .returned (.int .i64 (a.tmod 16384)) ∧ w' = w := by
  have h2 := Int.tmod_lt_of_pos a (show (0 : Int) < 16384 by omega)
  have h3 := Int.lt_tmod_of_pos a (show (0 : Int) < 16384 by omega)
  have hw : IntKind.i64.wrap (a.tmod 16384) = a.tmod 16384 := by rw [IntKind.wrap_i64]; omega
  go_enter Tryd.func45, Tryd.ntmps45
  go_wp2_with fail
  go_ret
  exact ⟨rfl, rfl⟩
theorem plus_c (s x : St) (h1 : IntKind.i64.wrap (s.1 + x.1) = s.1 + x.1) (h2 : IntKind.i64.wrap (s.2 + x.2) = s.2 + x.2) (w : World) : Calls Tryd.prog 43 #[stV s, stV x] w fun e w' => e = .returned (stV (s.1 + x.1, s.2 + x.2)) ∧ w' = (((w.alloc (.cells #[.int .i64 s.1, .int .i64 s.2] 65)).alloc (.cells #[.int .i64 x.1, .int .i64 x.2] 65)).alloc (.cells #[.int .i64 (s.1 + x.1), .int .i64 (s.2 + x.2)] 65)) := by
  go_enter Tryd.func43, Tryd.ntmps43
  go_wp2_with fail
  refine bodyPost_ret (v := stV (s.1 + x.1, s.2 + x.2)) (by simp [results, Tryd.results43, go_sem, *]) rfl ⟨rfl, rfl⟩
theorem two_al {w : World} (o1 o2 : Obj) : Below w.heap.size w ((w.alloc o1).alloc o2) := ((Below.refl _ _).alloc (Nat.le_refl _) _).alloc (by simp) _
set_option maxRecDepth 20000 in
theorem suits_c (r : Rw) (s : St) (w : World) : Calls Tryd.prog 42 #[rwV r, stV s] w fun e w' => e = .returned (.bool (suitB r s.1 s.2)) ∧ Below w.heap.size w w' := by
  by_cases hd : r.d = 3
  · have h1 : suitB r s.1 s.2 = (decide (s.1 = r.n1) && decide (s.2 = r.n2)) := by unfold suitB; rw [if_pos hd]
    rw [h1]
    go_enter Tryd.func42, Tryd.ntmps42
    go_wp2_with fail
    all_goals go_ret
    all_goals exact ⟨by simp [*], two_al _ _⟩
  · have h1 : suitB r s.1 s.2 = (decide (r.n1 ≤ s.1) && decide (r.n2 ≤ s.2)) := by unfold suitB; rw [if_neg hd]
    rw [h1]
    by_cases h2 : r.n1 ≤ s.1
    · have h3 : (decide (r.n1 ≤ s.1) && decide (r.n2 ≤ s.2)) = decide (r.n2 ≤ s.2) := by simp [h2]
      rw [h3]
      clear h1 h3
      go_enter Tryd.func42, Tryd.ntmps42
      go_wp2_with fail
      all_goals go_ret
      all_goals exact ⟨by first | rfl | simp [*], two_al _ _⟩
    · have h3 : (decide (r.n1 ≤ s.1) && decide (r.n2 ≤ s.2)) = false := by simp [h2]
      rw [h3]
      clear h1 h3
      go_enter Tryd.func42, Tryd.ntmps42
      go_wp2_with fail
      all_goals go_ret
      all_goals exact ⟨by first | rfl | simp [*], two_al _ _⟩
set_option maxRecDepth 20000 in
theorem leadsOn_c {w0 : World} {wb qb : Nat} {g : PgP} {u : PgV} {pl : List (Option St)} (i a : Int) (w : World) (h : Wa w0 w wb qb g u pl) : Calls Tryd.prog 50 #[.pointer (some ⟨wb, 0, none⟩), .int .i64 i, .int .i64 a] w fun e w' => e = .returned (.bool (leadsB pl.length i a)) ∧ w' = w := by
  have z := h.box.cell 12 _ rfl
  have zl := h.box.lt
  have HC := chid (vbelow_c a pl.length w)
  clear h
  by_cases hi : i < a
  · have h1 : leadsB pl.length i a = belowB a pl.length := by unfold leadsB; simp [hi]
    rw [h1]
    clear h1
    generalize belowB a pl.length = r at *
    go_enter Tryd.func50, Tryd.ntmps50
    go_wp2_with fail
    refine Calls.mono HC.out ?_
    rintro e w1 ⟨rfl, rfl⟩
    go_wp2_with fail
    go_ret
    exact ⟨rfl, rfl⟩
  · have h1 : leadsB pl.length i a = false := by unfold leadsB; simp [hi]
    rw [h1]
    clear h1
    go_enter Tryd.func50, Tryd.ntmps50
    go_wp2_with fail
    go_ret
    exact ⟨rfl, rfl⟩
set_option maxHeartbeats 1000000 in
set_option maxRecDepth 20000 in
theorem mayBe_c {w0 : World} {wb qb : Nat} {g : PgP} {u : PgV} {pl : List (Option St)} (arg i a : Int) (ha0 : -9223372036854775808 ≤ a) (ha1 : a ≤ 9223372036854775807) (w : World) (h : Wa w0 w wb qb g u pl) : Calls Tryd.prog 41 #[.pointer (some ⟨wb, 0, none⟩), .int .i64 arg, .int .i64 i, .int .i64 a] w fun e w' => e = .returned (.bool (mayF g pl.length arg i a)) ∧ w' = w := by
  have hK := RowsK.next h.rd.k h.bel
  have hW := RowsK.next h.rd.wi h.bel
  have hR := RowsK.next h.rd.cr h.bel
  have H := chid h
  have HK := chid hK
  obtain ⟨a1, c1, e1, hc1, hc2⟩ := RowsK.shape hK
  obtain ⟨a2, c2, e2, -⟩ := RowsK.shape hW
  obtain ⟨a3, c3, e3, -⟩ := RowsK.shape hR
  obtain ⟨uk, uw, ur, uc⟩ := u
  simp only at e1 e2 e3
  subst e1 e2 e3
  have z6 := h.box.cell 6 _ rfl
  have z7 := h.box.cell 7 _ rfl
  have z8 := h.box.cell 8 _ rfl
  have z9 := h.box.cell 9 _ rfl
  have zl := h.box.lt
  have HB := chid (fun x n => vbelow_c x n w)
  have HL := chid (fun x => leadsOn_c i x w H.out)
  clear h hK hW hR
  by_cases q1 : arg = 1
  · subst q1
    have hm : mayF g pl.length 1 i a = belowB a g.K.length := by simp [mayF]
    rw [hm]
    go_enter Tryd.func41, Tryd.ntmps41
    go_wp2_with fail
    refine Calls.mono (HB.out _ _) ?_
    rintro e w1 ⟨rfl, rfl⟩
    go_wp2_with fail
    go_ret
    exact ⟨rfl, rfl⟩
  by_cases q3 : arg = 3
  · subst q3
    have hm : mayF g pl.length 3 i a = belowB a g.wins.length := by simp [mayF]
    rw [hm]
    go_enter Tryd.func41, Tryd.ntmps41
    go_wp2_with fail
    refine Calls.mono (HB.out _ _) ?_
    rintro e w1 ⟨rfl, rfl⟩
    go_wp2_with fail
    go_ret
    exact ⟨rfl, rfl⟩
  by_cases q4 : arg = 4
  · subst q4
    have hm : mayF g pl.length 4 i a = belowB a g.crons.length := by simp [mayF]
    rw [hm]
    go_enter Tryd.func41, Tryd.ntmps41
    go_wp2_with fail
    refine Calls.mono (HB.out _ _) ?_
    rintro e w1 ⟨rfl, rfl⟩
    go_wp2_with fail
    go_ret
    exact ⟨rfl, rfl⟩
  by_cases q6 : arg = 6
  · subst q6
    have hm : mayF g pl.length 6 i a = leadsB pl.length i a := by simp [mayF]
    rw [hm]
    go_enter Tryd.func41, Tryd.ntmps41
    go_wp2_with fail
    refine Calls.mono (HL.out _) ?_
    rintro e w1 ⟨rfl, rfl⟩
    go_wp2_with fail
    go_ret
    exact ⟨rfl, rfl⟩
  by_cases q7 : arg = 7
  · subst q7
    have hm : mayF g pl.length 7 i a = belowB a g.loc := by simp [mayF]
    rw [hm]
    go_enter Tryd.func41, Tryd.ntmps41
    go_wp2_with fail
    refine Calls.mono (HB.out _ _) ?_
    rintro e w1 ⟨rfl, rfl⟩
    go_wp2_with fail
    go_ret
    exact ⟨rfl, rfl⟩
  by_cases q8 : arg = 8
  · subst q8
    have hm : mayF g pl.length 8 i a = (belowB (a.tdiv 16384) g.loc && leadsB pl.length i (a.tmod 16384)) := by simp [mayF]
    rw [hm]
    have d1 := Int.tmod_lt_of_pos a (show (0 : Int) < 16384 by omega)
    have d2 := Int.lt_tmod_of_pos a (show (0 : Int) < 16384 by omega)
    have hw1 : IntKind.i64.wrap (a.tmod 16384) = a.tmod 16384 := by rw [IntKind.wrap_i64]; omega
    have d3 := Int.tmod_add_mul_tdiv a 16384
    have hw2 : IntKind.i64.wrap (a.tdiv 16384) = a.tdiv 16384 := by rw [IntKind.wrap_i64]; omega
    clear d3
    cases hb : belowB (a.tdiv 16384) g.loc with
    | false =>
      have HB1 := chid (HB.out (a.tdiv 16384) g.loc)
      rw [hb] at HB1
      clear HB HL hb
      go_enter Tryd.func41, Tryd.ntmps41
      go_wp2_with fail
      refine Calls.mono HB1.out ?_
      rintro e w1 ⟨rfl, rfl⟩
      go_wp2_with fail
      go_ret
      exact ⟨rfl, rfl⟩
    | true =>
      have HB1 := chid (HB.out (a.tdiv 16384) g.loc)
      rw [hb] at HB1
      have HL1 := chid (HL.out (a.tmod 16384))
      clear HB HL hb
      generalize leadsB pl.length i (a.tmod 16384) = r at *
      go_enter Tryd.func41, Tryd.ntmps41
      go_wp2_with fail
      refine Calls.mono HB1.out ?_
      rintro e w1 ⟨rfl, rfl⟩
      go_wp2_with fail
      refine Calls.mono HL1.out ?_
      rintro e w2 ⟨rfl, rfl⟩
      go_wp2_with fail
      go_ret
      exact ⟨rfl, rfl⟩
  by_cases q5 : arg = 5
  · subst q5
    have hm : mayF g pl.length 5 i a = (decide (1 ≤ a) && decide (a ≤ 3)) := by simp [mayF]
    rw [hm]
    go_enter Tryd.func41, Tryd.ntmps41
    by_cases h1 : 1 ≤ a
    · have h2 : (decide (1 ≤ a) && decide (a ≤ 3)) = decide (a ≤ 3) := by simp [h1]
      rw [h2]
      clear h2 hm
      go_wp2_with fail
      go_ret
      exact ⟨rfl, rfl⟩
    · have h2 : (decide (1 ≤ a) && decide (a ≤ 3)) = false := by simp [h1]
      rw [h2]
      clear h2 hm
      go_wp2_with fail
      go_ret
      exact ⟨rfl, rfl⟩
  by_cases q2 : arg = 2
  · subst q2
    have hm : mayF g pl.length 2 i a = (belowB a ((g.K.length : Int) - 1) && (decide (0 ≤ g.K.getD a.toNat 0) && decide (1 ≤ g.K.getD (a + 1).toNat 0))) := by simp [mayF]
    rw [hm]
    have hw1 : IntKind.i64.wrap ((g.K.length : Int) - 1) = (g.K.length : Int) - 1 := by rw [IntKind.wrap_i64]; omega
    cases hb : belowB a ((g.K.length : Int) - 1) with
    | false =>
      have HB1 := chid (HB.out a ((g.K.length : Int) - 1))
      rw [hb] at HB1
      clear HB HL hb hm
      go_enter Tryd.func41, Tryd.ntmps41
      go_wp2_with fail
      refine Calls.mono HB1.out ?_
      rintro e w1 ⟨rfl, rfl⟩
      go_wp2_with fail
      go_ret
      exact ⟨rfl, rfl⟩
    | true =>
      have HB1 := chid (HB.out a ((g.K.length : Int) - 1))
      rw [hb] at HB1
      have hbb : 0 ≤ a ∧ a < (g.K.length : Int) - 1 := by unfold belowB at hb; simp at hb; omega
      obtain ⟨k, rfl⟩ : ∃ k : Nat, a = (k : Int) := ⟨a.toNat, by omega⟩
      obtain ⟨b, off, cap, hv, -, -, hbl, hx⟩ := RowsK.open HK.out (by omega)
      cases hv
      have y0 := hx k (by omega) 0 _ rfl
      have y1 := hx (k + 1) (by omega) 0 _ rfl
      rw [show off + k * 1 + 0 = off + k by omega] at y0
      rw [show off + (k + 1) * 1 + 0 = off + (k + 1) by omega] at y1
      rw [show ((k : Int)).toNat = k by omega, show ((k : Int) + 1).toNat = k + 1 by omega]
      have hk1 : (k : Int) + 1 < (g.K.length : Int) := by omega
      have hk0 : (k : Int) < (g.K.length : Int) := by omega
      have hw2 : IntKind.i64.wrap ((k : Int) + 1) = (k : Int) + 1 := by rw [IntKind.wrap_i64]; omega
      have hk2 : ((k : Int) + 1).toNat = k + 1 := by omega
      have hk3 : (0 : Int) ≤ (k : Int) + 1 := by omega
      clear HB HL hb hm hx
      generalize g.K.getD k 0 = v0 at *
      generalize g.K.getD (k + 1) 0 = v1 at *
      by_cases h1 : 0 ≤ v0
      · have h2 : (true && (decide (0 ≤ v0) && decide (1 ≤ v1))) = decide (1 ≤ v1) := by simp [h1]
        rw [h2]
        clear h2
        go_enter Tryd.func41, Tryd.ntmps41
        go_wp2_with fail
        refine Calls.mono HB1.out ?_
        rintro e w1 ⟨rfl, rfl⟩
        go_wp2_with fail
        go_ret
        exact ⟨rfl, rfl⟩
      · have h2 : (true && (decide (0 ≤ v0) && decide (1 ≤ v1))) = false := by simp [h1]
        rw [h2]
        clear h2
        go_enter Tryd.func41, Tryd.ntmps41
        go_wp2_with fail
        refine Calls.mono HB1.out ?_
        rintro e w1 ⟨rfl, rfl⟩
        go_wp2_with fail
        go_ret
        exact ⟨rfl, rfl⟩
  have hm : mayF g pl.length arg i a = decide (a = 0) := by simp [mayF, q1, q2, q3, q4, q5, q6, q7, q8]
  rw [hm]
  go_enter Tryd.func41, Tryd.ntmps41
  go_wp2_with fail
  go_ret
  exact ⟨congrArg (fun b => Ending.returned (.bool b)) (by rw [Bool.eq_iff_iff]; simp), rfl⟩

def WaP (q : Option (List (Option St))) (w0 : World) (wb qb : Nat) (g : PgP) (u : PgV) (e : Ending) (w' : World) : Prop := Below w0.heap.size w0 w' ∧ match q with
  | some pl => e = .returned (.bool true) ∧ Wa w0 w' wb qb g u pl
  | none => e = .returned (.bool false)
def LeP (q : Option (List (Option St))) (w0 w : World) (wb qb : Nat) (g : PgP) (u : PgV) (e : Ending) (w' : World) : Prop := WaP q w0 wb qb g u e w' ∧ Turn [qb] w w'
set_option maxHeartbeats 1000000 in
set_option maxRecDepth 20000 in
theorem lead_c {w0 : World} {wb qb : Nat} {g : PgP} {u : PgV} {pl : List (Option St)} (at' : Int) (s : St) (h0 : 0 ≤ at') (w : World) (h : Wa w0 w wb qb g u pl) : Calls Tryd.prog 44 #[.pointer (some ⟨wb, 0, none⟩), .int .i64 at', stV s] w (LeP (leadR g.h pl (at', s)) w0 w wb qb g u) := by
  have HNo : Hid (∀ w', leadR g.h pl (at', s) = none → Below w.heap.size w w' → LeP (leadR g.h pl (at', s)) w0 w wb qb g u (.returned (.bool false)) w') := chid (fun w' hq hb => by rw [hq]; exact ⟨⟨cbelow_on h.bel hb h.bel.size, rfl⟩, Turn.of_below hb⟩)
  have z12 := h.box.cell 12 _ rfl
  have z10 := h.box.cell 10 _ rfl
  have zl := h.box.lt
  by_cases c1 : (pl.length : Int) ≤ at'
  · have HE := chid (show leadR g.h pl (at', s) = none from by unfold leadR; rw [if_pos (.inl c1)])
    clear h
    generalize LeP (leadR g.h pl (at', s)) w0 w wb qb g u = Post at *
    go_enter Tryd.func44, Tryd.ntmps44
    go_wp2_with fail
    go_quiet (fail)
    go_wp2_with fail
    exact HNo.out _ HE.out (cdrewN ((Below.refl _ _).alloc (Nat.le_refl _) _) _)
  by_cases c2 : g.h < s.1
  · have HE := chid (show leadR g.h pl (at', s) = none from by unfold leadR; rw [if_pos (.inr (.inl c2))])
    clear h
    generalize LeP (leadR g.h pl (at', s)) w0 w wb qb g u = Post at *
    go_enter Tryd.func44, Tryd.ntmps44
    go_wp2_with fail
    go_quiet (fail)
    go_wp2_with fail
    exact HNo.out _ HE.out (cdrewN ((Below.refl _ _).alloc (Nat.le_refl _) _) _)
  by_cases c3 : 4096 < s.2
  · have HE := chid (show leadR g.h pl (at', s) = none from by unfold leadR; rw [if_pos (.inr (.inr c3))])
    clear h
    generalize LeP (leadR g.h pl (at', s)) w0 w wb qb g u = Post at *
    go_enter Tryd.func44, Tryd.ntmps44
    go_wp2_with fail
    go_quiet (fail)
    go_wp2_with fail
    exact HNo.out _ HE.out (cdrewN ((Below.refl _ _).alloc (Nat.le_refl _) _) _)
  obtain ⟨k, rfl⟩ : ∃ k : Nat, at' = (k : Int) := ⟨at'.toNat, by omega⟩
  have hk : k < pl.length := by omega
  have hk' : (k : Int) < (pl.length : Int) := by omega
  have hkn : ((k : Int)).toNat = k := by omega
  have h1 : leadR g.h pl ((k : Int), s) = match pl[k] with | none => some (pl.set k (some s)) | some s' => if s' = s then some (pl.set k (some s)) else none := by
    unfold leadR
    rw [if_neg (by simp only; omega)]
    have : pl.getD ((k : Int)).toNat none = pl[k] := by simp [List.getD, hk]
    rw [this]
    simp only [hkn]
    cases pl[k] <;> rfl
  have hat : pl[k]? = some pl[k] := List.getElem?_eq_getElem hk
  have f0 := h.free k hk 0 (by omega)
  have f1 := h.free k hk 1 (by omega)
  have f2 := h.free k hk 2 (by omega)
  rw [Nat.add_zero] at f0
  have ql := h.pls.lt
  have hne := h.ne
  have HSet : Hid (∀ (ob1 ob2 : Obj) (n : Nat), Wa w0 (((((((w.alloc ob1).drewN n).setCell ⟨qb, k * 3, none⟩ (.bool true)).setCell ⟨qb, k * 3 + 1, none⟩ (.int .i64 s.1)).setCell ⟨qb, k * 3 + 2, none⟩ (.int .i64 s.2)).alloc ob2).drew) wb qb g u (pl.set k (some s))) := chid (fun ob1 ob2 n =>
    ((((h.next (cdrewN (bel_alloc w ob1) n)).set k hk s).next (bel_alloc _ ob2)).next (Below.refl _ _).drew))
  have HTu : Hid (∀ (ob1 ob2 : Obj) (n : Nat), Turn [qb] w (((((((w.alloc ob1).drewN n).setCell ⟨qb, k * 3, none⟩ (.bool true)).setCell ⟨qb, k * 3 + 1, none⟩ (.int .i64 s.1)).setCell ⟨qb, k * 3 + 2, none⟩ (.int .i64 s.2)).alloc ob2).drew)) := chid (fun ob1 ob2 n =>
    (((((Turn.of_below (cdrewN (bel_alloc w ob1) n)).andSet _ _ (.inl (by simp))).andSet _ _ (.inl (by simp))).andSet _ _ (.inl (by simp))).andBelow (bel_alloc _ ob2)).andBelow (Below.refl _ _).drew)
  have HOk : Hid (∀ w' pl', leadR g.h pl ((k : Int), s) = some pl' → Wa w0 w' wb qb g u pl' → Turn [qb] w w' → LeP (leadR g.h pl ((k : Int), s)) w0 w wb qb g u (.returned (.bool true)) w') := chid (fun w' pl' hq ha ht => by rw [hq]; exact ⟨⟨ha.bel, rfl, ha⟩, ht⟩)
  have HNo2 : Hid (∀ w', leadR g.h pl ((k : Int), s) = none → Below w0.heap.size w0 w' → Turn [qb] w w' → LeP (leadR g.h pl ((k : Int), s)) w0 w wb qb g u (.returned (.bool false)) w') := chid (fun w' hq hb ht => by rw [hq]; exact ⟨⟨hb, rfl⟩, ht⟩)
  cases ho : pl[k] with
  | none =>
    rw [ho] at hat h1
    have y0 := h.cells k none hat 0 _ rfl
    have y1 := h.cells k none hat 1 _ rfl
    have y2 := h.cells k none hat 2 _ rfl
    rw [Nat.add_zero] at y0
    have H1 := chid h1
    clear h ho hat h1 hkn
    generalize LeP (leadR g.h pl ((k : Int), s)) w0 w wb qb g u = Post at *
    go_enter Tryd.func44, Tryd.ntmps44
    go_wp2_with fail
    go_quiet (fail)
    go_wp2_with fail
    go_region_law (fail)
    all_goals go_wp2_with fail
    all_goals exact HOk.out _ _ H1.out (HSet.out _ _ _) (HTu.out _ _ _)
  | some s' =>
    rw [ho] at hat h1
    have y0 := h.cells k (some s') hat 0 _ rfl
    have y1 := h.cells k (some s') hat 1 _ rfl
    have y2 := h.cells k (some s') hat 2 _ rfl
    rw [Nat.add_zero] at y0
    have H1 := chid h1
    clear h ho hat h1 hkn
    by_cases e1 : s'.1 = s.1
    · by_cases e2 : s'.2 = s.2
      · have HE := chid (show leadR g.h pl ((k : Int), s) = some (pl.set k (some s)) from H1.out.trans (if_pos (Prod.ext e1 e2)))
        generalize LeP (leadR g.h pl ((k : Int), s)) w0 w wb qb g u = Post at *
        go_enter Tryd.func44, Tryd.ntmps44
        go_wp2_with fail
        go_quiet (fail)
        go_wp2_with fail
        go_region_law (fail)
        all_goals go_wp2_with fail
        all_goals exact HOk.out _ _ HE.out (HSet.out _ _ _) (HTu.out _ _ _)
      · have HE := chid (show leadR g.h pl ((k : Int), s) = none from H1.out.trans (if_neg (fun e => e2 (by rw [e]))))
        generalize LeP (leadR g.h pl ((k : Int), s)) w0 w wb qb g u = Post at *
        go_enter Tryd.func44, Tryd.ntmps44
        go_wp2_with fail
        go_quiet (fail)
        go_wp2_with fail
        go_region_law (fail)
        all_goals go_wp2_with fail
        all_goals exact HNo2.out _ HE.out (HSet.out _ _ _).bel (HTu.out _ _ _)
    · have HE := chid (show leadR g.h pl ((k : Int), s) = none from H1.out.trans (if_neg (fun e => e1 (by rw [e]))))
      generalize LeP (leadR g.h pl ((k : Int), s)) w0 w wb qb g u = Post at *
      go_enter Tryd.func44, Tryd.ntmps44
      go_wp2_with fail
      go_quiet (fail)
      go_wp2_with fail
      go_region_law (fail)
      all_goals go_wp2_with fail
      all_goals exact HNo2.out _ HE.out (HSet.out _ _ _).bel (HTu.out _ _ _)
theorem row_small {op : Int} {r : Rw} (h : rowF op = some r) : -1 ≤ r.x1 ∧ r.x1 ≤ 1 ∧ -1 ≤ r.x2 ∧ r.x2 ≤ 1 ∧ -1 ≤ r.t1 ∧ r.t1 ≤ 1 ∧ -1 ≤ r.t2 ∧ r.t2 ≤ 1 ∧ 0 ≤ r.d ∧ r.d ≤ 3 := by
  have hm := List.mem_of_find?_eq_some h
  simp only [rwT, List.mem_cons, List.not_mem_nil, or_false] at hm
  rcases hm with rfl | rfl | rfl | rfl | rfl | rfl | rfl | rfl | rfl | rfl | rfl | rfl | rfl | rfl | rfl | rfl | rfl | rfl <;> decide
end Go.Proofs.YtigldebdljfnbaaDoor

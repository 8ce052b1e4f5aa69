import Derived.Test.YtigldebdljfnbaaDoorMgM
import Derived.Test.YtigldebdljfnbaaDoorMhN
import Derived.Test.YtigldebdljfnbaaDoorMgP
import Derived.Test.YtigldebdljfnbaaDoorMgC
import Derived.Test.YtigldebdljfnbaaDoorMhB
namespace Go.Proofs.YtigldebdljfnbaaDoor
open Go.RowKit

def MemD (t : Co) : Prop := t.op = 7 → (0 ≤ t.n ∧ t.n < 256) ∧ ∃ x, t.parts = [x] ∧ x.op ≠ 0

abbrev ruV (r : RuP) : Value := .agg #[.int .i64 r.mn, .int .i64 r.mx, .int .i64 r.st, .int .i64 r.up, .int .i64 r.dn]
def coolB (s : Int) : Bool := decide (0 ≤ s ∧ s ≤ 604800)
theorem cool_c (s : Int) (w : World) : Calls Tryd.prog 46 #[.int .i64 s] w fun e w' => e = .returned (.bool (coolB s)) ∧ w = w' := by
  by_cases h1 : 0 ≤ s
  · by_cases h2 : s ≤ 604800
    · have hb : coolB s = true := decide_eq_true ⟨h1, h2⟩
      rw [hb]
      go_enter Tryd.func46, Tryd.ntmps46
      go_wp2_with fail
      go_ret
      exact ⟨rfl, rfl⟩
    · have hb : coolB s = false := decide_eq_false fun h => h2 h.2
      rw [hb]
      go_enter Tryd.func46, Tryd.ntmps46
      go_wp2_with fail
      go_ret
      exact ⟨rfl, rfl⟩
  · have hb : coolB s = false := decide_eq_false fun h => h1 h.1
    rw [hb]
    go_enter Tryd.func46, Tryd.ntmps46
    go_wp2_with fail
    go_ret
    exact ⟨rfl, rfl⟩
def rulesB (a b c d e : Int) : Bool := decide (0 ≤ a ∧ a ≤ b ∧ 1 ≤ b ∧ b ≤ 1000000 ∧ 1 ≤ c ∧ c ≤ 1000000 ∧ 0 ≤ d ∧ d ≤ 604800 ∧ 0 ≤ e ∧ e ≤ 604800)
set_option maxHeartbeats 2000000 in
set_option maxRecDepth 20000 in
theorem rRight5 (a b c d e : Int) (w : World) : Calls Tryd.prog 16 #[.agg #[.int .i64 a, .int .i64 b, .int .i64 c, .int .i64 d, .int .i64 e]] w fun x w' => x = .returned (.bool (rulesB a b c d e)) ∧ Below w.heap.size w w' := by
  have HB := chid ((Below.refl w.heap.size w).alloc (Nat.le_refl _) (.cells #[.int .i64 a, .int .i64 b, .int .i64 c, .int .i64 d, .int .i64 e] 24))
  generalize hx : rulesB a b c d e = x
  have HX := chid hx
  clear hx
  by_cases h0 : 0 ≤ a
  case neg =>
    have e1 : x = false := by rw [← HX.out]; exact decide_eq_false (fun hh => h0 (by omega))
    subst e1
    go_enter Tryd.func16, Tryd.ntmps16
    go_wp2_with fail
    go_ret
    exact ⟨rfl, HB.out⟩
  by_cases h1 : a ≤ b
  case neg =>
    have e1 : x = false := by rw [← HX.out]; exact decide_eq_false (fun hh => h1 (by omega))
    subst e1
    go_enter Tryd.func16, Tryd.ntmps16
    go_wp2_with fail
    go_ret
    exact ⟨rfl, HB.out⟩
  by_cases h2 : 1 ≤ b
  case neg =>
    have e1 : x = false := by rw [← HX.out]; exact decide_eq_false (fun hh => h2 (by omega))
    subst e1
    go_enter Tryd.func16, Tryd.ntmps16
    go_wp2_with fail
    go_ret
    exact ⟨rfl, HB.out⟩
  by_cases h3 : b ≤ 1000000
  case neg =>
    have e1 : x = false := by rw [← HX.out]; exact decide_eq_false (fun hh => h3 (by omega))
    subst e1
    go_enter Tryd.func16, Tryd.ntmps16
    go_wp2_with fail
    go_ret
    exact ⟨rfl, HB.out⟩
  by_cases h4 : 1 ≤ c
  case neg =>
    have e1 : x = false := by rw [← HX.out]; exact decide_eq_false (fun hh => h4 (by omega))
    subst e1
    go_enter Tryd.func16, Tryd.ntmps16
    go_wp2_with fail
    go_ret
    exact ⟨rfl, HB.out⟩
  by_cases h5 : c ≤ 1000000
  case neg =>
    have e1 : x = false := by rw [← HX.out]; exact decide_eq_false (fun hh => h5 (by omega))
    subst e1
    go_enter Tryd.func16, Tryd.ntmps16
    go_wp2_with fail
    go_ret
    exact ⟨rfl, HB.out⟩
  by_cases h6 : 0 ≤ d
  case neg =>
    have e1 : x = false := by rw [← HX.out]; exact decide_eq_false (fun hh => h6 (by omega))
    subst e1
    go_enter Tryd.func16, Tryd.ntmps16
    go_wp2_with fail
    go_ret
    exact ⟨rfl, HB.out⟩
  by_cases h7 : d ≤ 604800
  case neg =>
    have e1 : x = false := by rw [← HX.out]; exact decide_eq_false (fun hh => h7 (by omega))
    subst e1
    go_enter Tryd.func16, Tryd.ntmps16
    go_wp2_with fail
    go_ret
    exact ⟨rfl, HB.out⟩
  by_cases h8 : 0 ≤ e
  case neg =>
    have e1 : x = false := by rw [← HX.out]; exact decide_eq_false (fun hh => h8 (by omega))
    subst e1
    go_enter Tryd.func16, Tryd.ntmps16
    go_wp2_with fail
    go_ret
    exact ⟨rfl, HB.out⟩
  by_cases h9 : e ≤ 604800
  case neg =>
    have e1 : x = false := by rw [← HX.out]; exact decide_eq_false (fun hh => h9 (by omega))
    subst e1
    go_enter Tryd.func16, Tryd.ntmps16
    go_wp2_with fail
    go_ret
    exact ⟨rfl, HB.out⟩
  have e1 : x = true := by rw [← HX.out]; exact decide_eq_true ⟨h0, h1, h2, h3, h4, h5, h6, h7, h8, h9⟩
  subst e1
  go_enter Tryd.func16, Tryd.ntmps16
  go_wp2_with fail
  go_ret
  exact ⟨rfl, HB.out⟩
theorem rRight_c (r : RuP) (w : World) : Calls Tryd.prog 16 #[ruV r] w fun x w' => x = .returned (.bool (ruB r)) ∧ Below w.heap.size w w' := rRight5 r.mn r.mx r.st r.up r.dn w
set_option maxHeartbeats 2000000 in
set_option maxRecDepth 20000 in
theorem cRight5 (a b c d e : Int) (w : World) : Calls Tryd.prog 36 #[.agg #[.int .i64 a, .int .i64 b, .int .i64 c, .int .i64 d, .int .i64 e]] w fun x w' => x = .returned (.bool (rulesB a b c d e)) ∧ Below w.heap.size w w' := by
  have HB := chid ((Below.refl w.heap.size w).alloc (Nat.le_refl _) (.cells #[.int .i64 a, .int .i64 b, .int .i64 c, .int .i64 d, .int .i64 e] 24))
  have HC1 := chid (fun W => cool_c d W)
  have HC2 := chid (fun W => cool_c e W)
  generalize hx : rulesB a b c d e = x
  have HX := chid hx
  clear hx
  by_cases h0 : 0 ≤ a
  case neg =>
    by_cases h4 : 1 ≤ c
    · by_cases h5 : c ≤ 1000000
      · skip
        have e1 : x = false := by rw [← HX.out]; exact decide_eq_false (fun hh => h0 (by omega))
        subst e1
        go_enter Tryd.func36, Tryd.ntmps36
        go_wp2_with fail
        go_ret
        exact ⟨rfl, HB.out⟩
      · skip
        have e1 : x = false := by rw [← HX.out]; exact decide_eq_false (fun hh => h0 (by omega))
        subst e1
        go_enter Tryd.func36, Tryd.ntmps36
        go_wp2_with fail
        go_ret
        exact ⟨rfl, HB.out⟩
    · skip
      have e1 : x = false := by rw [← HX.out]; exact decide_eq_false (fun hh => h0 (by omega))
      subst e1
      go_enter Tryd.func36, Tryd.ntmps36
      go_wp2_with fail
      go_ret
      exact ⟨rfl, HB.out⟩
  by_cases h1 : a ≤ b
  case neg =>
    by_cases h4 : 1 ≤ c
    · by_cases h5 : c ≤ 1000000
      · skip
        have e1 : x = false := by rw [← HX.out]; exact decide_eq_false (fun hh => h1 (by omega))
        subst e1
        go_enter Tryd.func36, Tryd.ntmps36
        go_wp2_with fail
        go_ret
        exact ⟨rfl, HB.out⟩
      · skip
        have e1 : x = false := by rw [← HX.out]; exact decide_eq_false (fun hh => h1 (by omega))
        subst e1
        go_enter Tryd.func36, Tryd.ntmps36
        go_wp2_with fail
        go_ret
        exact ⟨rfl, HB.out⟩
    · skip
      have e1 : x = false := by rw [← HX.out]; exact decide_eq_false (fun hh => h1 (by omega))
      subst e1
      go_enter Tryd.func36, Tryd.ntmps36
      go_wp2_with fail
      go_ret
      exact ⟨rfl, HB.out⟩
  by_cases h2 : 1 ≤ b
  case neg =>
    by_cases h4 : 1 ≤ c
    · by_cases h5 : c ≤ 1000000
      · skip
        have e1 : x = false := by rw [← HX.out]; exact decide_eq_false (fun hh => h2 (by omega))
        subst e1
        go_enter Tryd.func36, Tryd.ntmps36
        go_wp2_with fail
        go_ret
        exact ⟨rfl, HB.out⟩
      · skip
        have e1 : x = false := by rw [← HX.out]; exact decide_eq_false (fun hh => h2 (by omega))
        subst e1
        go_enter Tryd.func36, Tryd.ntmps36
        go_wp2_with fail
        go_ret
        exact ⟨rfl, HB.out⟩
    · skip
      have e1 : x = false := by rw [← HX.out]; exact decide_eq_false (fun hh => h2 (by omega))
      subst e1
      go_enter Tryd.func36, Tryd.ntmps36
      go_wp2_with fail
      go_ret
      exact ⟨rfl, HB.out⟩
  by_cases h3 : b ≤ 1000000
  case neg =>
    by_cases h4 : 1 ≤ c
    · by_cases h5 : c ≤ 1000000
      · skip
        have e1 : x = false := by rw [← HX.out]; exact decide_eq_false (fun hh => h3 (by omega))
        subst e1
        go_enter Tryd.func36, Tryd.ntmps36
        go_wp2_with fail
        go_ret
        exact ⟨rfl, HB.out⟩
      · skip
        have e1 : x = false := by rw [← HX.out]; exact decide_eq_false (fun hh => h3 (by omega))
        subst e1
        go_enter Tryd.func36, Tryd.ntmps36
        go_wp2_with fail
        go_ret
        exact ⟨rfl, HB.out⟩
    · skip
      have e1 : x = false := by rw [← HX.out]; exact decide_eq_false (fun hh => h3 (by omega))
      subst e1
      go_enter Tryd.func36, Tryd.ntmps36
      go_wp2_with fail
      go_ret
      exact ⟨rfl, HB.out⟩
  by_cases h4 : 1 ≤ c
  case neg =>
    have e1 : x = false := by rw [← HX.out]; exact decide_eq_false (fun hh => h4 (by omega))
    subst e1
    go_enter Tryd.func36, Tryd.ntmps36
    go_wp2_with fail
    go_ret
    exact ⟨rfl, HB.out⟩
  by_cases h5 : c ≤ 1000000
  case neg =>
    have e1 : x = false := by rw [← HX.out]; exact decide_eq_false (fun hh => h5 (by omega))
    subst e1
    go_enter Tryd.func36, Tryd.ntmps36
    go_wp2_with fail
    go_ret
    exact ⟨rfl, HB.out⟩
  have e1 : x = (coolB d && coolB e) := by
    rw [← HX.out]
    unfold rulesB coolB
    rw [← Bool.decide_and]
    exact decide_eq_decide.2 ⟨fun h => by omega, fun h => by omega⟩
  subst e1
  generalize coolB d = y1 at *
  generalize coolB e = y2 at *
  clear HX
  cases y1 with
  | false =>
    go_enter Tryd.func36, Tryd.ntmps36
    go_wp2_with fail
    refine Calls.mono (HC1.out _) ?_
    rintro e w1 ⟨rfl, rfl⟩
    go_wp2_with fail
    go_ret
    exact ⟨rfl, HB.out⟩
  | true =>
    go_enter Tryd.func36, Tryd.ntmps36
    go_wp2_with fail
    refine Calls.mono (HC1.out _) ?_
    rintro e w1 ⟨rfl, rfl⟩
    go_wp2_with fail
    refine Calls.mono (HC2.out _) ?_
    rintro e w1 ⟨rfl, rfl⟩
    go_wp2_with fail
    go_ret
    exact ⟨rfl, HB.out⟩

theorem all_take {α : Type} {f : α → Bool} {l : List α} {k : Nat} (h : k < l.length) : (l.take (k + 1)).all f = ((l.take k).all f && f l[k]) := by
  rw [List.take_succ_eq_append_getElem h, List.all_append]; simp only [List.all_cons, List.all_nil, Bool.and_true]
theorem all_no {α : Type} {f : α → Bool} {l : List α} {k : Nat} (h : k < l.length) (hf : f l[k] = false) : l.all f = false := by
  rw [List.all_eq_false]
  exact ⟨l[k], List.getElem_mem h, by simp [hf]⟩
theorem cgetD {α : Type} {l : List α} {k : Nat} {d : α} (h : k < l.length) : l.getD k d = l[k] := by simp [List.getD, h]


theorem sort_of {wn cn ln : Int} {t : Co} (h : csort ladF wn cn ln t ≠ 0) : ∃ k : Nat, t.op = (k : Int) ∧ 1 ≤ k ∧ k ≤ 32 ∧ fitsB k wn cn ln t = true ∧ (∀ x, x ∈ t.parts → csort ladF wn cn ln x ≠ 0) ∧ csort ladF wn cn ln t = sortF ladF k t (t.parts.map (csort ladF wn cn ln)) := by
  have e := csort_eq ladF wn cn ln t
  by_cases h1 : 1 ≤ t.op ∧ t.op ≤ 32
  · rw [if_pos h1] at e
    by_cases h2 : fitsB t.op.toNat wn cn ln t = true
    · rw [if_pos h2] at e
      by_cases h3 : (t.parts.map (csort ladF wn cn ln)).contains 0 = true
      · rw [if_pos h3] at e; exact absurd e h
      · rw [if_neg h3] at e
        refine ⟨t.op.toNat, by omega, by omega, by omega, h2, fun x hx hz => h3 ?_, e⟩
        rw [List.contains_iff_mem, List.mem_map]
        exact ⟨x, hx, hz⟩
    · rw [if_neg h2] at e; exact absurd e h
  · rw [if_neg h1] at e; exact absurd e h
theorem sort_nodes {wn cn ln : Int} (t : Co) : csort ladF wn cn ln t ≠ 0 → ∀ x, x ∈ cpord t → csort ladF wn cn ln x ≠ 0 := by
  induction t using Co.ind with
  | h t ih =>
    intro h x hx
    rw [cpord_eq] at hx
    rcases List.mem_cons.1 hx with rfl | hx
    · exact h
    · obtain ⟨l, hl, hm⟩ := List.mem_flatten.1 hx
      obtain ⟨y, hy, rfl⟩ := List.mem_map.1 hl
      obtain ⟨k, -, -, -, -, hp, -⟩ := sort_of h
      exact ih y hy (hp y hy) x hm
theorem memD_of {wn cn ln : Int} (hl : ln ≤ 256) {t : Co} (h : csort ladF wn cn ln t ≠ 0) : MemD t := by
  intro h7
  obtain ⟨k, hk, h1, h2, hf, hp, hs⟩ := sort_of h
  obtain rfl : k = 7 := by omega
  have hf2 : fitsB 7 wn cn ln t = true := hf
  have e1 : sortF ladF 7 t (t.parts.map (csort ladF wn cn ln)) = alikeF 1 (t.parts.map (csort ladF wn cn ln)) := rfl
  rw [hs, e1] at h
  obtain ⟨g1, -⟩ := alike_of h
  obtain ⟨x, hx⟩ := len1 (by simpa using g1 : t.parts.length = 1)
  refine ⟨?_, x, hx, fun h0 => ?_⟩
  · simp [fitsB, belowB] at hf2
    omega
  · obtain ⟨j, hj, j1, -⟩ := sort_of (hp x (by rw [hx]; simp))
    omega
theorem memD_plan {p : PlP} (hs : sortsB p = true) (hl : p.loc ≤ 256) : ∀ x, x ∈ plord p → MemD x := by
  unfold sortsB at hs
  rw [Bool.and_eq_true, List.all_eq_true] at hs
  obtain ⟨hg, hf⟩ := hs
  have hf2 : soP p p.fin ≠ 0 := by have := of_decide_eq_true hf; omega
  intro x hx
  unfold plord at hx
  rcases List.mem_append.1 hx with hx | hx
  · obtain ⟨l, hm, hxl⟩ := List.mem_flatten.1 hx
    obtain ⟨g, hgm, rfl⟩ := List.mem_map.1 hm
    have hgg := hg g hgm
    rw [Bool.and_eq_true] at hgg
    have h1 := of_decide_eq_true hgg.1
    have h2 := of_decide_eq_true hgg.2
    rcases List.mem_append.1 hxl with h | h
    · have n1 : soP p g.1 ≠ 0 := by omega
      exact memD_of hl (sort_nodes g.1 n1 x h)
    · have n2 : soP p g.2 ≠ 0 := by omega
      exact memD_of hl (sort_nodes g.2 n2 x h)
  · exact memD_of hl (sort_nodes p.fin hf2 x hx)
end Go.Proofs.YtigldebdljfnbaaDoor

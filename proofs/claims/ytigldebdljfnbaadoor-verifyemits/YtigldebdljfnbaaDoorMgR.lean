import Derived.Test.YtigldebdljfnbaaDoorMgC
import Derived.Test.YtigldebdljfnbaaDoorMgP
import Derived.Test.YtigldebdljfnbaaDoorMhB
namespace Go.Proofs.YtigldebdljfnbaaDoor
open Go.RowKit

def arT : List Int := [-2, 0, 0, 0, 0, 0, 0, 1, 1, 1, 1, 1, 1, 1, 2, 2, 2, 2, 2, 2, 2, 2, 2, 2, 2, 2, 2, 2, 3, 0, 1, 1, -1]
set_option maxHeartbeats 2000000 in
theorem arity_in : ∀ k, 1 ≤ k → k ≤ 32 → ∀ w : World, Calls Tryd.prog 32 #[.int .i64 ((k : Nat) : Int)] w fun e w' => e = .returned (.int .i64 (arT.getD k (-2))) ∧ w' = w := by
  apply op_cases (p := fun k => ∀ w : World, Calls Tryd.prog 32 #[.int .i64 ((k : Nat) : Int)] w fun e w' => e = .returned (.int .i64 (arT.getD k (-2))) ∧ w' = w) <;> (intro w; go_enter Tryd.func32, Tryd.ntmps32; go_wp2_with fail; go_ret; exact ⟨rfl, rfl⟩)
theorem arity_out (op : Int) (h : ¬ (1 ≤ op ∧ op ≤ 32)) (w : World) : Calls Tryd.prog 32 #[.int .i64 op] w fun e w' => e = .returned (.int .i64 (-2)) ∧ w' = w := by
  have e28 : (op == 28) = false := by simp; omega
  have e29 : (op == 29) = false := by simp; omega
  have e30 : (op == 30) = false := by simp; omega
  have e31 : (op == 31) = false := by simp; omega
  have e32 : (op == 32) = false := by simp; omega
  by_cases h1 : op < 1
  · have a1 : ¬ 1 ≤ op := by omega
    have a2 : ¬ 7 ≤ op := by omega
    have a3 : ¬ 14 ≤ op := by omega
    clear h
    go_enter Tryd.func32, Tryd.ntmps32
    go_wp2_with fail
    go_ret
    exact ⟨rfl, rfl⟩
  · have a1 : 1 ≤ op := by omega
    have a2 : 7 ≤ op := by omega
    have a3 : 14 ≤ op := by omega
    have b1 : ¬ op ≤ 6 := by omega
    have b2 : ¬ op ≤ 13 := by omega
    have b3 : ¬ op ≤ 27 := by omega
    clear h
    go_enter Tryd.func32, Tryd.ntmps32
    go_wp2_with fail
    go_ret
    exact ⟨rfl, rfl⟩
set_option maxHeartbeats 4000000 in
theorem rfields_c (k : Nat) (wn cn ln : Int) (h64 : C64 wn ∧ C64 cn ∧ C64 ln) (c : Co) (hc : c.op = ((k : Nat) : Int)) (hf : CFit c) (ad : Option Addr) (n cap : Nat) (w : World) : Calls Tryd.prog 33 #[.agg #[.int .i64 wn, .int .i64 cn, .int .i64 ln], coV c (.slice ad n cap)] w fun e w' => e = .returned (.bool (fitsB k wn cn ln c)) ∧ Below w.heap.size w w' := by
  obtain ⟨⟨w1, w2⟩, ⟨c1, c2⟩, l1, l2⟩ := h64
  obtain ⟨⟨o1, o2⟩, ⟨n1, n2⟩, m1, m2⟩ := hf
  have HB : Hid (∀ o o', Below w.heap.size w ((w.alloc o).alloc o')) := fun o o' => ((Below.refl _ _).alloc (Nat.le_refl _) _).alloc (by simp) _
  by_cases hk1 : k = 1
  · have hk := hk1
    have ho : c.op = 1 := by omega
    clear hc
    by_cases q0 : c.m = 0
    case neg =>
      have r0 : (c.m == 0) = false := by simpa using q0
      have hR : Hid (fitsB k wn cn ln c = false) := by show _ = _; subst hk; unfold fitsB; simp <;> omega
      rw [hR.out]
      clear hR
      go_enter Tryd.func33, Tryd.ntmps33
      go_wp2_with fail
      go_ret
      exact ⟨rfl, HB.out _ _⟩
    have hR : Hid (fitsB k wn cn ln c = true) := by show _ = _; subst hk; unfold fitsB; simp <;> omega
    rw [hR.out]
    clear hR
    go_enter Tryd.func33, Tryd.ntmps33
    go_wp2_with fail
    go_ret
    exact ⟨rfl, HB.out _ _⟩
  by_cases hk2 : k = 2
  · have hk := hk2
    have ho : c.op = 2 := by omega
    clear hc
    by_cases q0 : c.n = 0
    case neg =>
      have r0 : (c.n == 0) = false := by simpa using q0
      by_cases q1 : c.n = 1
      case neg =>
        have r1 : (c.n == 1) = false := by simpa using q1
        have hR : Hid (fitsB k wn cn ln c = false) := by show _ = _; subst hk; unfold fitsB; simp [belowB] <;> omega
        rw [hR.out]
        clear hR
        go_enter Tryd.func33, Tryd.ntmps33
        go_wp2_with fail
        go_ret
        exact ⟨rfl, HB.out _ _⟩
      by_cases q2 : c.m = 0
      case neg =>
        have r2 : (c.m == 0) = false := by simpa using q2
        have hR : Hid (fitsB k wn cn ln c = false) := by show _ = _; subst hk; unfold fitsB; simp [belowB] <;> omega
        rw [hR.out]
        clear hR
        go_enter Tryd.func33, Tryd.ntmps33
        go_wp2_with fail
        go_ret
        exact ⟨rfl, HB.out _ _⟩
      have hR : Hid (fitsB k wn cn ln c = true) := by show _ = _; subst hk; unfold fitsB; simp [belowB] <;> omega
      rw [hR.out]
      clear hR
      go_enter Tryd.func33, Tryd.ntmps33
      go_wp2_with fail
      go_ret
      exact ⟨rfl, HB.out _ _⟩
    by_cases q1 : c.m = 0
    case neg =>
      have r1 : (c.m == 0) = false := by simpa using q1
      have hR : Hid (fitsB k wn cn ln c = false) := by show _ = _; subst hk; unfold fitsB; simp [belowB] <;> omega
      rw [hR.out]
      clear hR
      go_enter Tryd.func33, Tryd.ntmps33
      go_wp2_with fail
      go_ret
      exact ⟨rfl, HB.out _ _⟩
    have hR : Hid (fitsB k wn cn ln c = true) := by show _ = _; subst hk; unfold fitsB; simp [belowB] <;> omega
    rw [hR.out]
    clear hR
    go_enter Tryd.func33, Tryd.ntmps33
    go_wp2_with fail
    go_ret
    exact ⟨rfl, HB.out _ _⟩
  by_cases hk4 : k = 4
  · have hk := hk4
    have ho : c.op = 4 := by omega
    clear hc
    by_cases q0 : 0 ≤ c.n
    case neg =>
      have hR : Hid (fitsB k wn cn ln c = false) := by show _ = _; subst hk; unfold fitsB; simp [belowB] <;> omega
      rw [hR.out]
      clear hR
      go_enter Tryd.func33, Tryd.ntmps33
      go_wp2_with fail
      go_ret
      exact ⟨rfl, HB.out _ _⟩
    by_cases q1 : c.n < wn
    case neg =>
      have hR : Hid (fitsB k wn cn ln c = false) := by show _ = _; subst hk; unfold fitsB; simp [belowB] <;> omega
      rw [hR.out]
      clear hR
      go_enter Tryd.func33, Tryd.ntmps33
      go_wp2_with fail
      go_ret
      exact ⟨rfl, HB.out _ _⟩
    by_cases q2 : c.m = 0
    case neg =>
      have r2 : (c.m == 0) = false := by simpa using q2
      have hR : Hid (fitsB k wn cn ln c = false) := by show _ = _; subst hk; unfold fitsB; simp [belowB] <;> omega
      rw [hR.out]
      clear hR
      go_enter Tryd.func33, Tryd.ntmps33
      go_wp2_with fail
      go_ret
      exact ⟨rfl, HB.out _ _⟩
    have hR : Hid (fitsB k wn cn ln c = true) := by show _ = _; subst hk; unfold fitsB; simp [belowB] <;> omega
    rw [hR.out]
    clear hR
    go_enter Tryd.func33, Tryd.ntmps33
    go_wp2_with fail
    go_ret
    exact ⟨rfl, HB.out _ _⟩
  by_cases hk5 : k = 5
  · have hk := hk5
    have ho : c.op = 5 := by omega
    clear hc
    by_cases q0 : 0 ≤ c.n
    case neg =>
      have hR : Hid (fitsB k wn cn ln c = false) := by show _ = _; subst hk; unfold fitsB; simp [belowB] <;> omega
      rw [hR.out]
      clear hR
      go_enter Tryd.func33, Tryd.ntmps33
      go_wp2_with fail
      go_ret
      exact ⟨rfl, HB.out _ _⟩
    by_cases q1 : c.n < cn
    case neg =>
      have hR : Hid (fitsB k wn cn ln c = false) := by show _ = _; subst hk; unfold fitsB; simp [belowB] <;> omega
      rw [hR.out]
      clear hR
      go_enter Tryd.func33, Tryd.ntmps33
      go_wp2_with fail
      go_ret
      exact ⟨rfl, HB.out _ _⟩
    by_cases q2 : c.m = 0
    case neg =>
      have r2 : (c.m == 0) = false := by simpa using q2
      have hR : Hid (fitsB k wn cn ln c = false) := by show _ = _; subst hk; unfold fitsB; simp [belowB] <;> omega
      rw [hR.out]
      clear hR
      go_enter Tryd.func33, Tryd.ntmps33
      go_wp2_with fail
      go_ret
      exact ⟨rfl, HB.out _ _⟩
    have hR : Hid (fitsB k wn cn ln c = true) := by show _ = _; subst hk; unfold fitsB; simp [belowB] <;> omega
    rw [hR.out]
    clear hR
    go_enter Tryd.func33, Tryd.ntmps33
    go_wp2_with fail
    go_ret
    exact ⟨rfl, HB.out _ _⟩
  by_cases hk6 : k = 6
  · have hk := hk6
    have ho : c.op = 6 := by omega
    clear hc
    by_cases q0 : 1 ≤ c.n
    case neg =>
      have hR : Hid (fitsB k wn cn ln c = false) := by show _ = _; subst hk; unfold fitsB; simp <;> omega
      rw [hR.out]
      clear hR
      go_enter Tryd.func33, Tryd.ntmps33
      go_wp2_with fail
      go_ret
      exact ⟨rfl, HB.out _ _⟩
    by_cases q1 : c.n ≤ 3
    case neg =>
      have hR : Hid (fitsB k wn cn ln c = false) := by show _ = _; subst hk; unfold fitsB; simp <;> omega
      rw [hR.out]
      clear hR
      go_enter Tryd.func33, Tryd.ntmps33
      go_wp2_with fail
      go_ret
      exact ⟨rfl, HB.out _ _⟩
    by_cases q2 : c.m = 1
    case neg =>
      have r2 : (c.m == 1) = false := by simpa using q2
      by_cases q3 : c.m = 2
      case neg =>
        have r3 : (c.m == 2) = false := by simpa using q3
        have hR : Hid (fitsB k wn cn ln c = false) := by show _ = _; subst hk; unfold fitsB; simp <;> omega
        rw [hR.out]
        clear hR
        go_enter Tryd.func33, Tryd.ntmps33
        go_wp2_with fail
        go_ret
        exact ⟨rfl, HB.out _ _⟩
      have hR : Hid (fitsB k wn cn ln c = true) := by show _ = _; subst hk; unfold fitsB; simp <;> omega
      rw [hR.out]
      clear hR
      go_enter Tryd.func33, Tryd.ntmps33
      go_wp2_with fail
      go_ret
      exact ⟨rfl, HB.out _ _⟩
    have hR : Hid (fitsB k wn cn ln c = true) := by show _ = _; subst hk; unfold fitsB; simp <;> omega
    rw [hR.out]
    clear hR
    go_enter Tryd.func33, Tryd.ntmps33
    go_wp2_with fail
    go_ret
    exact ⟨rfl, HB.out _ _⟩
  by_cases hk7 : k = 7
  · have hk := hk7
    have ho : c.op = 7 := by omega
    clear hc
    by_cases q0 : 0 ≤ c.n
    case neg =>
      have hR : Hid (fitsB k wn cn ln c = false) := by show _ = _; subst hk; unfold fitsB; simp [belowB] <;> omega
      rw [hR.out]
      clear hR
      go_enter Tryd.func33, Tryd.ntmps33
      go_wp2_with fail
      go_ret
      exact ⟨rfl, HB.out _ _⟩
    by_cases q1 : c.n < ln
    case neg =>
      have hR : Hid (fitsB k wn cn ln c = false) := by show _ = _; subst hk; unfold fitsB; simp [belowB] <;> omega
      rw [hR.out]
      clear hR
      go_enter Tryd.func33, Tryd.ntmps33
      go_wp2_with fail
      go_ret
      exact ⟨rfl, HB.out _ _⟩
    by_cases q2 : c.m = 0
    case neg =>
      have r2 : (c.m == 0) = false := by simpa using q2
      have hR : Hid (fitsB k wn cn ln c = false) := by show _ = _; subst hk; unfold fitsB; simp [belowB] <;> omega
      rw [hR.out]
      clear hR
      go_enter Tryd.func33, Tryd.ntmps33
      go_wp2_with fail
      go_ret
      exact ⟨rfl, HB.out _ _⟩
    have hR : Hid (fitsB k wn cn ln c = true) := by show _ = _; subst hk; unfold fitsB; simp [belowB] <;> omega
    rw [hR.out]
    clear hR
    go_enter Tryd.func33, Tryd.ntmps33
    go_wp2_with fail
    go_ret
    exact ⟨rfl, HB.out _ _⟩
  by_cases hk13 : k = 13
  · have hk := hk13
    have ho : c.op = 13 := by omega
    clear hc
    by_cases q0 : 0 ≤ c.n
    case neg =>
      have hR : Hid (fitsB k wn cn ln c = false) := by show _ = _; subst hk; unfold fitsB; simp <;> omega
      rw [hR.out]
      clear hR
      go_enter Tryd.func33, Tryd.ntmps33
      go_wp2_with fail
      go_ret
      exact ⟨rfl, HB.out _ _⟩
    by_cases q1 : 1 ≤ c.m
    case neg =>
      have hR : Hid (fitsB k wn cn ln c = false) := by show _ = _; subst hk; unfold fitsB; simp <;> omega
      rw [hR.out]
      clear hR
      go_enter Tryd.func33, Tryd.ntmps33
      go_wp2_with fail
      go_ret
      exact ⟨rfl, HB.out _ _⟩
    have hR : Hid (fitsB k wn cn ln c = true) := by show _ = _; subst hk; unfold fitsB; simp <;> omega
    rw [hR.out]
    clear hR
    go_enter Tryd.func33, Tryd.ntmps33
    go_wp2_with fail
    go_ret
    exact ⟨rfl, HB.out _ _⟩
  have ho1 : (c.op == 1) = false := by simp; omega
  have ho2 : (c.op == 2) = false := by simp; omega
  have ho4 : (c.op == 4) = false := by simp; omega
  have ho5 : (c.op == 5) = false := by simp; omega
  have ho6 : (c.op == 6) = false := by simp; omega
  have ho7 : (c.op == 7) = false := by simp; omega
  have ho13 : (c.op == 13) = false := by simp; omega
  clear hc
  have hk0 := And.intro hk1 (And.intro hk2 (And.intro hk4 (And.intro hk5 (And.intro hk6 (And.intro hk7 hk13)))))
  by_cases q0 : c.n = 0
  case neg =>
    have r0 : (c.n == 0) = false := by simpa using q0
    have hR : Hid (fitsB k wn cn ln c = false) := by show _ = _; unfold fitsB; simp [hk0] <;> omega
    rw [hR.out]
    clear hR
    go_enter Tryd.func33, Tryd.ntmps33
    go_wp2_with fail
    go_ret
    exact ⟨rfl, HB.out _ _⟩
  by_cases q1 : c.m = 0
  case neg =>
    have r1 : (c.m == 0) = false := by simpa using q1
    have hR : Hid (fitsB k wn cn ln c = false) := by show _ = _; unfold fitsB; simp [hk0] <;> omega
    rw [hR.out]
    clear hR
    go_enter Tryd.func33, Tryd.ntmps33
    go_wp2_with fail
    go_ret
    exact ⟨rfl, HB.out _ _⟩
  have hR : Hid (fitsB k wn cn ln c = true) := by show _ = _; unfold fitsB; simp [hk0] <;> omega
  rw [hR.out]
  clear hR
  go_enter Tryd.func33, Tryd.ntmps33
  go_wp2_with fail
  go_ret
  exact ⟨rfl, HB.out _ _⟩

abbrev roomV (wn cn ln : Int) : Value := .agg #[.int .i64 wn, .int .i64 cn, .int .i64 ln]
def RSo (wn cn ln : Int) (t : Co) : Prop := ∀ (v : Value) (w : World), CSits w t v → cnodes t ≤ 8192 → Calls Tryd.prog 20 #[roomV wn cn ln, coV t v] w fun e w' => e = .returned (.int .i64 (csort ladF wn cn ln t)) ∧ Below w.heap.size w w'
def dstep (c : Co) (ss : List Int) (i : Nat) : Prop := (c.parts.getD i co0).op = 1 ∧ ss.getD i 0 = 1 ∧ (1 < i → (c.parts.getD (i - 2) co0).n < (c.parts.getD i co0).n) ∧ ss.getD (i + 1) 0 = 3
def LadD (c : Co) (ss : List Int) : Prop := 2 ≤ ss.length ∧ ss.length % 2 = 0 ∧ ss.getD 0 0 = 1 ∧ (∀ i, i % 2 = 1 → i + 1 < ss.length → dstep c ss i) ∧ ss.getD (ss.length - 1) 0 = 3
theorem getD_mem0 {ss : List Int} {j : Nat} (h : j < ss.length) : ss.getD j 0 ∈ ss := by
  rw [List.getD_eq_getElem?_getD, List.getElem?_eq_getElem h]; exact List.getElem_mem h
theorem csort_num (wn cn ln : Int) (t : Co) (h : t.op = 1) : csort ladF wn cn ln t = 0 ∨ csort ladF wn cn ln t = 1 := by
  rw [csort_eq, h]
  rw [if_pos ⟨by decide, by decide⟩]
  split
  · split
    · exact .inl rfl
    · show mkF 1 [] _ = 0 ∨ mkF 1 [] _ = 1
      unfold mkF
      split
      · exact .inr rfl
      · exact .inl rfl
  · exact .inl rfl
theorem getD_map {wn cn ln : Int} (ps : List Co) {j : Nat} (h : j < ps.length) : (ps.map (csort ladF wn cn ln)).getD j 0 = csort ladF wn cn ln (ps.getD j co0) := by
  rw [List.getD_eq_getElem?_getD, List.getD_eq_getElem?_getD, List.getElem?_map, List.getElem?_eq_getElem h]; rfl
theorem ladD_iff (wn cn ln : Int) (c : Co) : LadD c (c.parts.map (csort ladF wn cn ln)) ↔ (c.parts.map (csort ladF wn cn ln)).contains 0 = false ∧ LadOk c (c.parts.map (csort ladF wn cn ln)) := by
  obtain ⟨ss, hss⟩ : ∃ ss, ss = c.parts.map (csort ladF wn cn ln) := ⟨_, rfl⟩
  have hl : ss.length = c.parts.length := by rw [hss]; simp
  rw [← hss]
  constructor
  · rintro ⟨h1, h2, h3, h4, h5⟩
    refine ⟨?_, h1, h2, h3, h5, fun i ho hi => ⟨(h4 i ho hi).1, (h4 i ho hi).2.2.2, (h4 i ho hi).2.2.1⟩⟩
    have key : ∀ j, j < ss.length → ss.getD j 0 ≠ 0 := by
      intro j hj
      by_cases j0 : j = 0
      · subst j0; omega
      by_cases je : j % 2 = 0
      · have := (h4 (j - 1) (by omega) (by omega)).2.2.2
        rw [show j - 1 + 1 = j by omega] at this
        omega
      · by_cases jl : j = ss.length - 1
        · rw [jl]; omega
        · have := (h4 j (by omega) (by omega)).2.1; omega
    rw [Bool.eq_false_iff]
    intro hc
    obtain ⟨j, hj, e⟩ := List.getElem_of_mem (List.contains_iff_mem.1 hc)
    have := key j hj
    rw [List.getD_eq_getElem?_getD, List.getElem?_eq_getElem hj] at this
    exact this e
  · rintro ⟨h0, h1, h2, h3, h5, h4⟩
    refine ⟨h1, h2, h3, fun i ho hi => ?_, h5⟩
    obtain ⟨a, b, d⟩ := h4 i ho hi
    refine ⟨a, ?_, d, b⟩
    have hm := getD_mem0 (ss := ss) (j := i) (by omega)
    have hne : ss.getD i 0 ≠ 0 := fun e => by
      rw [e] at hm
      rw [Bool.eq_false_iff] at h0
      exact h0 (List.contains_iff_mem.2 hm)
    rw [hss, getD_map c.parts (by omega)] at hne ⊢
    exact (csort_num wn cn ln _ a).resolve_left hne

set_option maxHeartbeats 4000000 in
set_option maxRecDepth 20000 in
theorem rladder_c (wn cn ln : Int) (c : Co) (hn : cnodes c ≤ 8192) (ih : ∀ x, x ∈ c.parts → RSo wn cn ln x) (v : Value) (w : World) (hs : CAt w v c.parts) (R : Bool) (hR : R = true ↔ LadD c (c.parts.map (csort ladF wn cn ln))) :
    Calls Tryd.prog 34 #[roomV wn cn ln, v] w fun e w' => e = .returned (.bool R) ∧ Below w.heap.size w w' := by
  obtain ⟨ad, cap, rfl, hc1, hc2⟩ := hs.shape
  have HI := chid (fun x hx u W hu => ih x hx u W hu (Nat.le_trans (Nat.le_of_lt (cnodes_part hx)) hn))
  have hsm : c.parts.length ≤ 8192 := by have := length_cnodesL c.parts; have := cnodes_eq c; omega
  have HP := chid hs
  have HR := chid hR
  obtain ⟨N, hN⟩ : ∃ N, Hid (N = c.parts.length) := ⟨_, rfl⟩
  obtain ⟨ss, hss⟩ : ∃ ss, Hid (ss = c.parts.map (csort ladF wn cn ln)) := ⟨_, rfl⟩
  rw [← hss.out] at HR
  have hsl : Hid (ss.length = N) := by show _ = _; rw [hss.out, hN.out]; simp
  rw [← hN.out] at HP hc1 hsm ⊢
  have BX : Hid (∀ ty, Box (w.alloc (.cells #[.int .i64 wn, .int .i64 cn, .int .i64 ln] ty)) w.heap.size [.int .i64 wn, .int .i64 cn, .int .i64 ln]) := fun ty => Box.new w [.int .i64 wn, .int .i64 cn, .int .i64 ln] ty
  have HA : Hid (∀ o, Below w.heap.size w (w.alloc o)) := fun o => (Below.refl _ _).alloc (Nat.le_refl _) _
  clear ih hs hR hn
  by_cases a2 : N < 2
  · have h0 : R = false := bfalse HR.out (fun h => by have := h.1; have := hsl.out; omega)
    subst h0
    have b2 : (N : Int) < 2 := by omega
    go_enter Tryd.func34, Tryd.ntmps34
    go_wp2_with fail
    go_quiet (fail)
    go_wp2_with fail
    go_ret
    exact ⟨rfl, by first | exact HA.out _ | exact cdrewN (HA.out _) _⟩
  have b2 : decide ((N : Int) < 2) = false := by simp; omega
  have i0 : 0 < N := by omega
  by_cases a3 : N % 2 = 0
  case neg =>
    have h0 : R = false := bfalse HR.out (fun h => by have := h.2.1; have := hsl.out; omega)
    subst h0
    have b3 : Int.tmod (N : Int) 2 = 1 := by rw [Int.tmod_eq_emod_of_nonneg (by omega)]; omega
    go_enter Tryd.func34, Tryd.ntmps34
    go_wp2_with fail
    go_quiet (fail)
    go_wp2_with fail
    go_ret
    exact ⟨rfl, by first | exact HA.out _ | exact cdrewN (HA.out _) _⟩
  have b3 : Int.tmod (N : Int) 2 = 0 := by rw [Int.tmod_eq_emod_of_nonneg (by omega)]; omega
  obtain ⟨b, off, cap', ev, -, -, hbl, hx⟩ := HP.out.open (by rw [← hN.out]; omega)
  simp only [Value.slice.injEq] at ev
  obtain ⟨rfl, -, rfl⟩ := ev
  have l0 : 0 < c.parts.length := by rw [← hN.out]; omega
  obtain ⟨u0, f0, s0⟩ := hx 0 l0
  have HXw := chid hx
  have HC0 := chid (fun W (hW : Below w.heap.size w W) => HI.out _ (List.getElem_mem l0) u0 W (s0.next hW))
  have hz0 : csort ladF wn cn ln c.parts[0] = ss.getD 0 0 := by rw [hss.out, getD_map c.parts l0]; congr 1; simp [List.getD, List.getElem?_eq_getElem l0]
  rw [hz0] at HC0
  obtain ⟨ad0, cap0, rfl, -, -⟩ := s0.parts.shape
  generalize c.parts[0] = t0 at *
  obtain ⟨w0, hw0⟩ : ∃ w0, Hid (w0 = w.alloc (.cells #[.int .i64 wn, .int .i64 cn, .int .i64 ln] 78)) := ⟨_, rfl⟩
  have HX : Hid (Box w0 w.heap.size [.int .i64 wn, .int .i64 cn, .int .i64 ln]) := by rw [hw0.out]; exact BX.out _
  have HB0 : Hid (Below w.heap.size w w0) := by rw [hw0.out]; exact chid (HA.out _)
  have HF0 := chid (f0.keep (w' := w0) (fun q => HB0.out.cell (p := ⟨b, q, none⟩) hbl))
  have bl0 : b < w0.heap.size := Nat.lt_of_lt_of_le hbl HB0.out.size
  have r0 := HX.out.cell 0 _ rfl
  have r1 := HX.out.cell 1 _ rfl
  have r2 := HX.out.cell 2 _ rfl
  have rl := HX.out.lt
  have d0 := HF0.out.c0
  have d1 := HF0.out.c1
  have d2 := HF0.out.c2
  have d3 := HF0.out.c3
  simp only [Nat.zero_mul, Nat.add_zero] at d0 d1 d2 d3
  clear f0 s0 hz0 BX HA HF0
  by_cases a4 : ss.getD 0 0 = 1
  case neg =>
    have h0 : R = false := bfalse HR.out (fun h => a4 h.2.2.1)
    subst h0
    have d4 : (ss.getD 0 0 != 1) = true := by simpa using a4
    generalize ss.getD 0 0 = x0 at *
    go_enter Tryd.func34, Tryd.ntmps34
    go_wp2_with fail
    rw [← hw0.out]
    go_region_held3 (fun w' => (w'.cell? ⟨w.heap.size, 0, none⟩ = some (.int .i64 wn) ∧ w'.cell? ⟨w.heap.size, 1, none⟩ = some (.int .i64 cn) ∧ w'.cell? ⟨w.heap.size, 2, none⟩ = some (.int .i64 ln)) ∧ (w'.cell? ⟨b, off, none⟩ = some (.int .i64 t0.op) ∧ w'.cell? ⟨b, off + 1, none⟩ = some (.int .i64 t0.n) ∧ w'.cell? ⟨b, off + 2, none⟩ = some (.int .i64 t0.m) ∧ w'.cell? ⟨b, off + 3, none⟩ = some (.slice ad0 t0.parts.length cap0))) (simp [go_sem, *]) (first | (go_at_call 20; refine Calls.mono (HC0.out _ (by exact cdrewN HB0.out _)) ?_; rintro e w1 ⟨rfl, b1⟩; have g0 := fun p v hp hv => (b1.cell (p := p) hp).trans (hv : w0.cell? p = some v); replace r0 := g0 _ _ rl r0; replace r1 := g0 _ _ rl r1; replace r2 := g0 _ _ rl r2; replace d0 := g0 _ _ bl0 d0; replace d1 := g0 _ _ bl0 d1; replace d2 := g0 _ _ bl0 d2; replace d3 := g0 _ _ bl0 d3; have Hu : Hid (Below w0.heap.size w0 w1) := ⟨b1.os, b1.tape, b1.output, b1.size, b1.block⟩; clear g0 b1))
    go_wp2_with fail
    go_ret
    exact ⟨rfl, cbelow_on HB0.out Hu.out HB0.out.size⟩
  rw [a4] at HC0
  go_enter Tryd.func34, Tryd.ntmps34
  go_wp2_with fail
  rw [← hw0.out]
  go_region_held3 (fun w' => (w'.cell? ⟨w.heap.size, 0, none⟩ = some (.int .i64 wn) ∧ w'.cell? ⟨w.heap.size, 1, none⟩ = some (.int .i64 cn) ∧ w'.cell? ⟨w.heap.size, 2, none⟩ = some (.int .i64 ln)) ∧ (w'.cell? ⟨b, off, none⟩ = some (.int .i64 t0.op) ∧ w'.cell? ⟨b, off + 1, none⟩ = some (.int .i64 t0.n) ∧ w'.cell? ⟨b, off + 2, none⟩ = some (.int .i64 t0.m) ∧ w'.cell? ⟨b, off + 3, none⟩ = some (.slice ad0 t0.parts.length cap0))) (simp [go_sem, *]) (first | (go_at_call 20; refine Calls.mono (HC0.out _ (by exact cdrewN HB0.out _)) ?_; rintro e w1 ⟨rfl, b1⟩; have g0 := fun p v hp hv => (b1.cell (p := p) hp).trans (hv : w0.cell? p = some v); replace r0 := g0 _ _ rl r0; replace r1 := g0 _ _ rl r1; replace r2 := g0 _ _ rl r2; replace d0 := g0 _ _ bl0 d0; replace d1 := g0 _ _ bl0 d1; replace d2 := g0 _ _ bl0 d2; replace d3 := g0 _ _ bl0 d3; have Hu : Hid (Below w0.heap.size w0 w1) := ⟨b1.os, b1.tape, b1.output, b1.size, b1.block⟩; clear g0 b1))
  clear r0 r1 r2 rl d0 d1 d2 d3 HC0 hw0 b2 b3
  obtain ⟨M, rfl⟩ : ∃ M, N = M + 1 := ⟨N - 1, by omega⟩
  have hM : 1 ≤ M := by omega
  have x0 := HX.out.lt
  go_wp2_with fail
  go_loopw [6] (fun i wr => ∃ i0 : Nat, i = .int .i64 (i0 : Nat) ∧ i0 ≤ M ∧ Hid (i0 % 2 = 1) ∧ Hid (∀ q, q % 2 = 1 → q < i0 → dstep c ss q) ∧ Hid (Below w1.heap.size w1 wr)) (fun i _ => match i with | .int _ p => M + 1 - p.toNat | _ => 0)
  case atStart => exact ⟨1, rfl, hM, chid rfl, (fun q h1 h2 => by omega), Below.refl _ _⟩
  case round =>
    obtain ⟨i, rfl, hj, HO, HQ, HW⟩ := hrel
    have HB1 := chid (cbelow_on Hu.out HW.out Hu.out.size)
    have HBw := chid (cbelow_on HB0.out HB1.out HB0.out.size)
    have XR := HX.out.next HB1.out
    have r0 := XR.cell 0 _ rfl
    have r1 := XR.cell 1 _ rfl
    have r2 := XR.cell 2 _ rfl
    have rl := XR.lt
    have bl : b < wr.heap.size := Nat.lt_of_lt_of_le hbl HBw.out.size
    clear XR
    by_cases hlt : i < M
    · have hlt' : (i : Int) < (M : Int) := by omega
      have hi0 : (0 : Int) ≤ (i : Int) := by omega
      have hi1 : (i : Int) < (M : Int) + 1 := by omega
      have hi2 : (i : Int) ≤ (M : Int) := by omega
      have hi3 : i < M + 1 := by omega
      have hc3 : (M : Int) + 1 ≤ 8192 := by omega
      have hl1 : i < c.parts.length := by have := hN.out; omega
      have hl2 : i + 1 < c.parts.length := by have := hN.out; omega
      have HNo : Hid (¬ dstep c ss i → R = false) := fun h => bfalse HR.out (fun k => h (k.2.2.2.1 i HO.out (by have := hsl.out; omega)))
      obtain ⟨u1, f1, v1⟩ := HXw.out i hl1
      obtain ⟨u2, f2, v2⟩ := HXw.out (i + 1) hl2
      have HC1 := chid (fun W (hW : Below w.heap.size w W) => HI.out _ (List.getElem_mem hl1) u1 W (v1.next hW))
      have HC2 := chid (fun W (hW : Below w.heap.size w W) => HI.out _ (List.getElem_mem hl2) u2 W (v2.next hW))
      obtain ⟨ad1, cap1, rfl, -, -⟩ := v1.parts.shape
      obtain ⟨ad2, cap2, rfl, -, -⟩ := v2.parts.shape
      obtain ⟨p0, p1, p2, p3⟩ := f1.keep (w' := wr) (fun q => HBw.out.cell (p := ⟨b, q, none⟩) hbl)
      obtain ⟨k0, k1, k2, k3⟩ := f2.keep (w' := wr) (fun q => HBw.out.cell (p := ⟨b, q, none⟩) hbl)
      have Ho1 : Hid (c.parts.getD i co0 = c.parts[i]) := by show _ = _; simp [List.getD, List.getElem?_eq_getElem hl1]
      obtain ⟨s1, hs1⟩ : ∃ s1, Hid (s1 = csort ladF wn cn ln c.parts[i]) := ⟨_, chid rfl⟩
      obtain ⟨s2, hs2⟩ : ∃ s2, Hid (s2 = csort ladF wn cn ln c.parts[i + 1]) := ⟨_, chid rfl⟩
      rw [← hs1.out] at HC1
      rw [← hs2.out] at HC2
      have Hs1 : Hid (s1 = ss.getD i 0) := by show _ = _; rw [hs1.out, hss.out, getD_map c.parts hl1, Ho1.out]
      have Hs2 : Hid (s2 = ss.getD (i + 1) 0) := by show _ = _; rw [hs2.out, hss.out, getD_map c.parts hl2]; congr 1; simp [List.getD, List.getElem?_eq_getElem hl2]
      generalize c.parts[i] = t1 at *
      generalize c.parts[i + 1] = t2 at *
      clear f1 f2 v1 v2 hs1 hs2
      by_cases q1 : t1.op = 1
      case neg =>
        have h0 : R = false := HNo.out (fun h => q1 (by rw [← Ho1.out]; exact h.1))
        subst h0
        have d4 : (t1.op != 1) = true := by simpa using q1
        clear HC1 HC2
        go_wp2_with fail
        go_quiet (fail)
        go_wp2_with fail
        go_ret
        exact ⟨rfl, by first | exact HBw.out | exact HBw.out.drew | exact cdrewN HBw.out _⟩
      have d4 : (t1.op != 1) = false := by simpa using q1
      have Hq1 := chid q1
      clear q1
      by_cases q2 : s1 = 1
      case neg =>
        have h0 : R = false := HNo.out (fun h => q2 (by rw [Hs1.out]; exact h.2.1))
        subst h0
        have d5 : (s1 != 1) = true := by simpa using q2
        clear HC2
        go_wp2_with fail
        obtain ⟨f, hf1, hf2⟩ := calm wr
        have HF1 := chid hf1
        have HF2 := chid hf2
        have r0' : ∀ n, (f n).cell? ⟨w.heap.size, 0, none⟩ = some (.int .i64 wn) := fun n => ((hf1 n).cell (p := ⟨w.heap.size, 0, none⟩) rl).trans r0
        have r1' : ∀ n, (f n).cell? ⟨w.heap.size, 1, none⟩ = some (.int .i64 cn) := fun n => ((hf1 n).cell (p := ⟨w.heap.size, 1, none⟩) rl).trans r1
        have r2' : ∀ n, (f n).cell? ⟨w.heap.size, 2, none⟩ = some (.int .i64 ln) := fun n => ((hf1 n).cell (p := ⟨w.heap.size, 2, none⟩) rl).trans r2
        have p0' : ∀ n, (f n).cell? ⟨b, off + (i) * 4, none⟩ = some (.int .i64 t1.op) := fun n => ((hf1 n).cell (p := ⟨b, off + (i) * 4, none⟩) bl).trans p0
        have p1' : ∀ n, (f n).cell? ⟨b, off + (i) * 4 + 1, none⟩ = some (.int .i64 t1.n) := fun n => ((hf1 n).cell (p := ⟨b, off + (i) * 4 + 1, none⟩) bl).trans p1
        have p2' : ∀ n, (f n).cell? ⟨b, off + (i) * 4 + 2, none⟩ = some (.int .i64 t1.m) := fun n => ((hf1 n).cell (p := ⟨b, off + (i) * 4 + 2, none⟩) bl).trans p2
        have p3' : ∀ n, (f n).cell? ⟨b, off + (i) * 4 + 3, none⟩ = some (.slice ad1 t1.parts.length cap1) := fun n => ((hf1 n).cell (p := ⟨b, off + (i) * 4 + 3, none⟩) bl).trans p3
        clear hf1 hf2 r0 r1 r2 p0 p1 p2 p3
        refine wp_region_calm f (by kernel_rfl) (by kernel_rfl) (HF2.out _ (Below.refl _ _).drew) ?_
        repeat (go_big_quiet_step (first | (go_at_call 20; with_reducible refine Calls.mono (HC1.out _ (cbelow_on HBw.out (HF1.out _) HBw.out.size)) ?_; rintro e W1 ⟨rfl, b5⟩; exact ⟨rfl, HF2.out _ (cbelow_on (HF1.out _) b5 (HF1.out _).size)⟩)))
        refine wpQuiet_nil ?_
        intro w5 hw5
        obtain ⟨n5, rfl⟩ := hw5
        have HV := chid (HF1.out n5)
        clear HF1 HF2 r0' r1' r2' p0' p1' p2' p3'
        generalize f n5 = w5 at *
        have HB5 := chid (cbelow_on HBw.out HV.out HBw.out.size)
        go_wp2_with fail
        go_ret
        exact ⟨rfl, HB5.out⟩
      subst q2
      by_cases q3 : 1 < i
      case neg =>
        have q4b : decide ((1 : Int) < (i : Int)) = false := decide_eq_false (by omega)
        have q4c : decide ((i : Int) > 1) = false := decide_eq_false (by omega)
        by_cases q5 : s2 = 3
        case neg =>
          have h0 : R = false := HNo.out (fun h => q5 (by rw [Hs2.out]; exact h.2.2.2))
          subst h0
          have d5 : (s2 != 3) = true := by simpa using q5
          go_wp2_with fail
          obtain ⟨f, hf1, hf2⟩ := calm wr
          have HF1 := chid hf1
          have HF2 := chid hf2
          have r0' : ∀ n, (f n).cell? ⟨w.heap.size, 0, none⟩ = some (.int .i64 wn) := fun n => ((hf1 n).cell (p := ⟨w.heap.size, 0, none⟩) rl).trans r0
          have r1' : ∀ n, (f n).cell? ⟨w.heap.size, 1, none⟩ = some (.int .i64 cn) := fun n => ((hf1 n).cell (p := ⟨w.heap.size, 1, none⟩) rl).trans r1
          have r2' : ∀ n, (f n).cell? ⟨w.heap.size, 2, none⟩ = some (.int .i64 ln) := fun n => ((hf1 n).cell (p := ⟨w.heap.size, 2, none⟩) rl).trans r2
          have p0' : ∀ n, (f n).cell? ⟨b, off + (i) * 4, none⟩ = some (.int .i64 t1.op) := fun n => ((hf1 n).cell (p := ⟨b, off + (i) * 4, none⟩) bl).trans p0
          have p1' : ∀ n, (f n).cell? ⟨b, off + (i) * 4 + 1, none⟩ = some (.int .i64 t1.n) := fun n => ((hf1 n).cell (p := ⟨b, off + (i) * 4 + 1, none⟩) bl).trans p1
          have p2' : ∀ n, (f n).cell? ⟨b, off + (i) * 4 + 2, none⟩ = some (.int .i64 t1.m) := fun n => ((hf1 n).cell (p := ⟨b, off + (i) * 4 + 2, none⟩) bl).trans p2
          have p3' : ∀ n, (f n).cell? ⟨b, off + (i) * 4 + 3, none⟩ = some (.slice ad1 t1.parts.length cap1) := fun n => ((hf1 n).cell (p := ⟨b, off + (i) * 4 + 3, none⟩) bl).trans p3
          have k0' : ∀ n, (f n).cell? ⟨b, off + (i + 1) * 4, none⟩ = some (.int .i64 t2.op) := fun n => ((hf1 n).cell (p := ⟨b, off + (i + 1) * 4, none⟩) bl).trans k0
          have k1' : ∀ n, (f n).cell? ⟨b, off + (i + 1) * 4 + 1, none⟩ = some (.int .i64 t2.n) := fun n => ((hf1 n).cell (p := ⟨b, off + (i + 1) * 4 + 1, none⟩) bl).trans k1
          have k2' : ∀ n, (f n).cell? ⟨b, off + (i + 1) * 4 + 2, none⟩ = some (.int .i64 t2.m) := fun n => ((hf1 n).cell (p := ⟨b, off + (i + 1) * 4 + 2, none⟩) bl).trans k2
          have k3' : ∀ n, (f n).cell? ⟨b, off + (i + 1) * 4 + 3, none⟩ = some (.slice ad2 t2.parts.length cap2) := fun n => ((hf1 n).cell (p := ⟨b, off + (i + 1) * 4 + 3, none⟩) bl).trans k3
          clear hf1 hf2 r0 r1 r2 p0 p1 p2 p3 k0 k1 k2 k3
          refine wp_region_calm f (by kernel_rfl) (by kernel_rfl) (HF2.out _ (Below.refl _ _).drew) ?_
          repeat (go_big_quiet_step (first | (go_at_call 20; with_reducible refine Calls.mono (HC1.out _ (cbelow_on HBw.out (HF1.out _) HBw.out.size)) ?_; rintro e W1 ⟨rfl, b5⟩; exact ⟨rfl, HF2.out _ (cbelow_on (HF1.out _) b5 (HF1.out _).size)⟩) | (go_at_call 20; with_reducible refine Calls.mono (HC2.out _ (cbelow_on HBw.out (HF1.out _) HBw.out.size)) ?_; rintro e W1 ⟨rfl, b5⟩; exact ⟨rfl, HF2.out _ (cbelow_on (HF1.out _) b5 (HF1.out _).size)⟩)))
          refine wpQuiet_nil ?_
          intro w5 hw5
          obtain ⟨n5, rfl⟩ := hw5
          have HV := chid (HF1.out n5)
          clear HF1 HF2 r0' r1' r2' p0' p1' p2' p3' k0' k1' k2' k3'
          generalize f n5 = w5 at *
          have HB5 := chid (cbelow_on HBw.out HV.out HBw.out.size)
          go_wp2_with fail
          go_ret
          exact ⟨rfl, HB5.out⟩
        subst q5
        have HQ2 : Hid (∀ q, q % 2 = 1 → q < i + 2 → dstep c ss q) := fun q h1 h2 => by
          by_cases e : q = i
          · rw [e]; exact ⟨by rw [Ho1.out]; exact Hq1.out, Hs1.out.symm, fun h => absurd h q3, Hs2.out.symm⟩
          · exact HQ.out q h1 (by have := HO.out; omega)
        go_wp2_with fail
        obtain ⟨f, hf1, hf2⟩ := calm wr
        have HF1 := chid hf1
        have HF2 := chid hf2
        have r0' : ∀ n, (f n).cell? ⟨w.heap.size, 0, none⟩ = some (.int .i64 wn) := fun n => ((hf1 n).cell (p := ⟨w.heap.size, 0, none⟩) rl).trans r0
        have r1' : ∀ n, (f n).cell? ⟨w.heap.size, 1, none⟩ = some (.int .i64 cn) := fun n => ((hf1 n).cell (p := ⟨w.heap.size, 1, none⟩) rl).trans r1
        have r2' : ∀ n, (f n).cell? ⟨w.heap.size, 2, none⟩ = some (.int .i64 ln) := fun n => ((hf1 n).cell (p := ⟨w.heap.size, 2, none⟩) rl).trans r2
        have p0' : ∀ n, (f n).cell? ⟨b, off + (i) * 4, none⟩ = some (.int .i64 t1.op) := fun n => ((hf1 n).cell (p := ⟨b, off + (i) * 4, none⟩) bl).trans p0
        have p1' : ∀ n, (f n).cell? ⟨b, off + (i) * 4 + 1, none⟩ = some (.int .i64 t1.n) := fun n => ((hf1 n).cell (p := ⟨b, off + (i) * 4 + 1, none⟩) bl).trans p1
        have p2' : ∀ n, (f n).cell? ⟨b, off + (i) * 4 + 2, none⟩ = some (.int .i64 t1.m) := fun n => ((hf1 n).cell (p := ⟨b, off + (i) * 4 + 2, none⟩) bl).trans p2
        have p3' : ∀ n, (f n).cell? ⟨b, off + (i) * 4 + 3, none⟩ = some (.slice ad1 t1.parts.length cap1) := fun n => ((hf1 n).cell (p := ⟨b, off + (i) * 4 + 3, none⟩) bl).trans p3
        have k0' : ∀ n, (f n).cell? ⟨b, off + (i + 1) * 4, none⟩ = some (.int .i64 t2.op) := fun n => ((hf1 n).cell (p := ⟨b, off + (i + 1) * 4, none⟩) bl).trans k0
        have k1' : ∀ n, (f n).cell? ⟨b, off + (i + 1) * 4 + 1, none⟩ = some (.int .i64 t2.n) := fun n => ((hf1 n).cell (p := ⟨b, off + (i + 1) * 4 + 1, none⟩) bl).trans k1
        have k2' : ∀ n, (f n).cell? ⟨b, off + (i + 1) * 4 + 2, none⟩ = some (.int .i64 t2.m) := fun n => ((hf1 n).cell (p := ⟨b, off + (i + 1) * 4 + 2, none⟩) bl).trans k2
        have k3' : ∀ n, (f n).cell? ⟨b, off + (i + 1) * 4 + 3, none⟩ = some (.slice ad2 t2.parts.length cap2) := fun n => ((hf1 n).cell (p := ⟨b, off + (i + 1) * 4 + 3, none⟩) bl).trans k3
        clear hf1 hf2 r0 r1 r2 p0 p1 p2 p3 k0 k1 k2 k3
        refine wp_region_calm f (by kernel_rfl) (by kernel_rfl) (HF2.out _ (Below.refl _ _).drew) ?_
        repeat (go_big_quiet_step (first | (go_at_call 20; with_reducible refine Calls.mono (HC1.out _ (cbelow_on HBw.out (HF1.out _) HBw.out.size)) ?_; rintro e W1 ⟨rfl, b5⟩; exact ⟨rfl, HF2.out _ (cbelow_on (HF1.out _) b5 (HF1.out _).size)⟩) | (go_at_call 20; with_reducible refine Calls.mono (HC2.out _ (cbelow_on HBw.out (HF1.out _) HBw.out.size)) ?_; rintro e W1 ⟨rfl, b5⟩; exact ⟨rfl, HF2.out _ (cbelow_on (HF1.out _) b5 (HF1.out _).size)⟩)))
        refine wpQuiet_nil ?_
        intro w5 hw5
        obtain ⟨n5, rfl⟩ := hw5
        have HV := chid (HF1.out n5)
        clear HF1 HF2 r0' r1' r2' p0' p1' p2' p3' k0' k1' k2' k3'
        generalize f n5 = w5 at *
        have HB5 := chid (cbelow_on HBw.out HV.out HBw.out.size)
        clear HC1 HC2
        go_wp2_with fail
        go_roundw
        case rel => exact ⟨i + 2, by go_num, by have := HO.out; omega, chid (by have := HO.out; omega), HQ2.out, chid (cbelow_on HW.out HV.out HW.out.size)⟩
        case measure => simp; omega
      obtain ⟨r, hr⟩ : ∃ r, Hid (i = r + 2) := ⟨i - 2, chid (by omega)⟩
      have hsub : (i : Int) - 2 = (r : Int) := by have := hr.out; omega
      have hr2 : (r : Int) < (M : Int) + 1 := by have := hr.out; omega
      have hr3 : r < M + 1 := by have := hr.out; omega
      have q4b : decide ((1 : Int) < (i : Int)) = true := decide_eq_true (by omega)
      have hlr : r < c.parts.length := by have := hN.out; have := hr.out; omega
      obtain ⟨u3, f3, -⟩ := HXw.out r hlr
      have z1 := (f3.keep (w' := wr) (fun q => HBw.out.cell (p := ⟨b, q, none⟩) hbl)).c1
      obtain ⟨x3, hx3⟩ : ∃ x3, Hid (x3 = c.parts[r].n) := ⟨_, chid rfl⟩
      rw [← hx3.out] at z1
      have Hx3 : Hid ((c.parts.getD r co0).n = x3) := by show _ = _; rw [hx3.out]; simp [List.getD, List.getElem?_eq_getElem hlr]
      clear f3 hx3
      by_cases q6 : x3 < t1.n
      case neg =>
        have h0 : R = false := HNo.out (fun h => q6 (by have k := h.2.2.1 q3; rw [Ho1.out, show i - 2 = r by have := hr.out; omega, Hx3.out] at k; exact k))
        subst h0
        have q7 : t1.n ≤ x3 := by omega
        have q8 : decide (t1.n ≤ x3) = true := decide_eq_true q7
        clear HC2
        go_wp2_with fail
        obtain ⟨f, hf1, hf2⟩ := calm wr
        have HF1 := chid hf1
        have HF2 := chid hf2
        have r0' : ∀ n, (f n).cell? ⟨w.heap.size, 0, none⟩ = some (.int .i64 wn) := fun n => ((hf1 n).cell (p := ⟨w.heap.size, 0, none⟩) rl).trans r0
        have r1' : ∀ n, (f n).cell? ⟨w.heap.size, 1, none⟩ = some (.int .i64 cn) := fun n => ((hf1 n).cell (p := ⟨w.heap.size, 1, none⟩) rl).trans r1
        have r2' : ∀ n, (f n).cell? ⟨w.heap.size, 2, none⟩ = some (.int .i64 ln) := fun n => ((hf1 n).cell (p := ⟨w.heap.size, 2, none⟩) rl).trans r2
        have p0' : ∀ n, (f n).cell? ⟨b, off + (i) * 4, none⟩ = some (.int .i64 t1.op) := fun n => ((hf1 n).cell (p := ⟨b, off + (i) * 4, none⟩) bl).trans p0
        have p1' : ∀ n, (f n).cell? ⟨b, off + (i) * 4 + 1, none⟩ = some (.int .i64 t1.n) := fun n => ((hf1 n).cell (p := ⟨b, off + (i) * 4 + 1, none⟩) bl).trans p1
        have p2' : ∀ n, (f n).cell? ⟨b, off + (i) * 4 + 2, none⟩ = some (.int .i64 t1.m) := fun n => ((hf1 n).cell (p := ⟨b, off + (i) * 4 + 2, none⟩) bl).trans p2
        have p3' : ∀ n, (f n).cell? ⟨b, off + (i) * 4 + 3, none⟩ = some (.slice ad1 t1.parts.length cap1) := fun n => ((hf1 n).cell (p := ⟨b, off + (i) * 4 + 3, none⟩) bl).trans p3
        have z1' : ∀ n, (f n).cell? ⟨b, off + r * 4 + 1, none⟩ = some (.int .i64 x3) := fun n => ((hf1 n).cell (p := ⟨b, off + r * 4 + 1, none⟩) bl).trans z1
        clear hf1 hf2 r0 r1 r2 p0 p1 p2 p3 z1
        refine wp_region_calm f (by kernel_rfl) (by kernel_rfl) (HF2.out _ (Below.refl _ _).drew) ?_
        repeat (go_big_quiet_step (first | (go_at_call 20; with_reducible refine Calls.mono (HC1.out _ (cbelow_on HBw.out (HF1.out _) HBw.out.size)) ?_; rintro e W1 ⟨rfl, b5⟩; exact ⟨rfl, HF2.out _ (cbelow_on (HF1.out _) b5 (HF1.out _).size)⟩)))
        refine wpQuiet_nil ?_
        intro w5 hw5
        obtain ⟨n5, rfl⟩ := hw5
        have HV := chid (HF1.out n5)
        clear HF1 HF2 r0' r1' r2' p0' p1' p2' p3' z1'
        generalize f n5 = w5 at *
        have HB5 := chid (cbelow_on HBw.out HV.out HBw.out.size)
        go_wp2_with fail
        go_ret
        exact ⟨rfl, HB5.out⟩
      have q7 : ¬ t1.n ≤ x3 := by omega
      have q8 : decide (t1.n ≤ x3) = false := decide_eq_false q7
      by_cases q5 : s2 = 3
      case neg =>
        have h0 : R = false := HNo.out (fun h => q5 (by rw [Hs2.out]; exact h.2.2.2))
        subst h0
        have d5 : (s2 != 3) = true := by simpa using q5
        go_wp2_with fail
        obtain ⟨f, hf1, hf2⟩ := calm wr
        have HF1 := chid hf1
        have HF2 := chid hf2
        have r0' : ∀ n, (f n).cell? ⟨w.heap.size, 0, none⟩ = some (.int .i64 wn) := fun n => ((hf1 n).cell (p := ⟨w.heap.size, 0, none⟩) rl).trans r0
        have r1' : ∀ n, (f n).cell? ⟨w.heap.size, 1, none⟩ = some (.int .i64 cn) := fun n => ((hf1 n).cell (p := ⟨w.heap.size, 1, none⟩) rl).trans r1
        have r2' : ∀ n, (f n).cell? ⟨w.heap.size, 2, none⟩ = some (.int .i64 ln) := fun n => ((hf1 n).cell (p := ⟨w.heap.size, 2, none⟩) rl).trans r2
        have p0' : ∀ n, (f n).cell? ⟨b, off + (i) * 4, none⟩ = some (.int .i64 t1.op) := fun n => ((hf1 n).cell (p := ⟨b, off + (i) * 4, none⟩) bl).trans p0
        have p1' : ∀ n, (f n).cell? ⟨b, off + (i) * 4 + 1, none⟩ = some (.int .i64 t1.n) := fun n => ((hf1 n).cell (p := ⟨b, off + (i) * 4 + 1, none⟩) bl).trans p1
        have p2' : ∀ n, (f n).cell? ⟨b, off + (i) * 4 + 2, none⟩ = some (.int .i64 t1.m) := fun n => ((hf1 n).cell (p := ⟨b, off + (i) * 4 + 2, none⟩) bl).trans p2
        have p3' : ∀ n, (f n).cell? ⟨b, off + (i) * 4 + 3, none⟩ = some (.slice ad1 t1.parts.length cap1) := fun n => ((hf1 n).cell (p := ⟨b, off + (i) * 4 + 3, none⟩) bl).trans p3
        have k0' : ∀ n, (f n).cell? ⟨b, off + (i + 1) * 4, none⟩ = some (.int .i64 t2.op) := fun n => ((hf1 n).cell (p := ⟨b, off + (i + 1) * 4, none⟩) bl).trans k0
        have k1' : ∀ n, (f n).cell? ⟨b, off + (i + 1) * 4 + 1, none⟩ = some (.int .i64 t2.n) := fun n => ((hf1 n).cell (p := ⟨b, off + (i + 1) * 4 + 1, none⟩) bl).trans k1
        have k2' : ∀ n, (f n).cell? ⟨b, off + (i + 1) * 4 + 2, none⟩ = some (.int .i64 t2.m) := fun n => ((hf1 n).cell (p := ⟨b, off + (i + 1) * 4 + 2, none⟩) bl).trans k2
        have k3' : ∀ n, (f n).cell? ⟨b, off + (i + 1) * 4 + 3, none⟩ = some (.slice ad2 t2.parts.length cap2) := fun n => ((hf1 n).cell (p := ⟨b, off + (i + 1) * 4 + 3, none⟩) bl).trans k3
        have z1' : ∀ n, (f n).cell? ⟨b, off + r * 4 + 1, none⟩ = some (.int .i64 x3) := fun n => ((hf1 n).cell (p := ⟨b, off + r * 4 + 1, none⟩) bl).trans z1
        clear hf1 hf2 r0 r1 r2 p0 p1 p2 p3 k0 k1 k2 k3 z1
        refine wp_region_calm f (by kernel_rfl) (by kernel_rfl) (HF2.out _ (Below.refl _ _).drew) ?_
        repeat (go_big_quiet_step (first | (go_at_call 20; with_reducible refine Calls.mono (HC1.out _ (cbelow_on HBw.out (HF1.out _) HBw.out.size)) ?_; rintro e W1 ⟨rfl, b5⟩; exact ⟨rfl, HF2.out _ (cbelow_on (HF1.out _) b5 (HF1.out _).size)⟩) | (go_at_call 20; with_reducible refine Calls.mono (HC2.out _ (cbelow_on HBw.out (HF1.out _) HBw.out.size)) ?_; rintro e W1 ⟨rfl, b5⟩; exact ⟨rfl, HF2.out _ (cbelow_on (HF1.out _) b5 (HF1.out _).size)⟩)))
        refine wpQuiet_nil ?_
        intro w5 hw5
        obtain ⟨n5, rfl⟩ := hw5
        have HV := chid (HF1.out n5)
        clear HF1 HF2 r0' r1' r2' p0' p1' p2' p3' k0' k1' k2' k3' z1'
        generalize f n5 = w5 at *
        have HB5 := chid (cbelow_on HBw.out HV.out HBw.out.size)
        go_wp2_with fail
        go_ret
        exact ⟨rfl, HB5.out⟩
      subst q5
      have HQ2 : Hid (∀ q, q % 2 = 1 → q < i + 2 → dstep c ss q) := fun q h1 h2 => by
        by_cases e : q = i
        · rw [e]; exact ⟨by rw [Ho1.out]; exact Hq1.out, Hs1.out.symm, fun _ => by rw [Ho1.out, show i - 2 = r by have := hr.out; omega, Hx3.out]; exact q6, Hs2.out.symm⟩
        · exact HQ.out q h1 (by have := HO.out; omega)
      go_wp2_with fail
      obtain ⟨f, hf1, hf2⟩ := calm wr
      have HF1 := chid hf1
      have HF2 := chid hf2
      have r0' : ∀ n, (f n).cell? ⟨w.heap.size, 0, none⟩ = some (.int .i64 wn) := fun n => ((hf1 n).cell (p := ⟨w.heap.size, 0, none⟩) rl).trans r0
      have r1' : ∀ n, (f n).cell? ⟨w.heap.size, 1, none⟩ = some (.int .i64 cn) := fun n => ((hf1 n).cell (p := ⟨w.heap.size, 1, none⟩) rl).trans r1
      have r2' : ∀ n, (f n).cell? ⟨w.heap.size, 2, none⟩ = some (.int .i64 ln) := fun n => ((hf1 n).cell (p := ⟨w.heap.size, 2, none⟩) rl).trans r2
      have p0' : ∀ n, (f n).cell? ⟨b, off + (i) * 4, none⟩ = some (.int .i64 t1.op) := fun n => ((hf1 n).cell (p := ⟨b, off + (i) * 4, none⟩) bl).trans p0
      have p1' : ∀ n, (f n).cell? ⟨b, off + (i) * 4 + 1, none⟩ = some (.int .i64 t1.n) := fun n => ((hf1 n).cell (p := ⟨b, off + (i) * 4 + 1, none⟩) bl).trans p1
      have p2' : ∀ n, (f n).cell? ⟨b, off + (i) * 4 + 2, none⟩ = some (.int .i64 t1.m) := fun n => ((hf1 n).cell (p := ⟨b, off + (i) * 4 + 2, none⟩) bl).trans p2
      have p3' : ∀ n, (f n).cell? ⟨b, off + (i) * 4 + 3, none⟩ = some (.slice ad1 t1.parts.length cap1) := fun n => ((hf1 n).cell (p := ⟨b, off + (i) * 4 + 3, none⟩) bl).trans p3
      have k0' : ∀ n, (f n).cell? ⟨b, off + (i + 1) * 4, none⟩ = some (.int .i64 t2.op) := fun n => ((hf1 n).cell (p := ⟨b, off + (i + 1) * 4, none⟩) bl).trans k0
      have k1' : ∀ n, (f n).cell? ⟨b, off + (i + 1) * 4 + 1, none⟩ = some (.int .i64 t2.n) := fun n => ((hf1 n).cell (p := ⟨b, off + (i + 1) * 4 + 1, none⟩) bl).trans k1
      have k2' : ∀ n, (f n).cell? ⟨b, off + (i + 1) * 4 + 2, none⟩ = some (.int .i64 t2.m) := fun n => ((hf1 n).cell (p := ⟨b, off + (i + 1) * 4 + 2, none⟩) bl).trans k2
      have k3' : ∀ n, (f n).cell? ⟨b, off + (i + 1) * 4 + 3, none⟩ = some (.slice ad2 t2.parts.length cap2) := fun n => ((hf1 n).cell (p := ⟨b, off + (i + 1) * 4 + 3, none⟩) bl).trans k3
      have z1' : ∀ n, (f n).cell? ⟨b, off + r * 4 + 1, none⟩ = some (.int .i64 x3) := fun n => ((hf1 n).cell (p := ⟨b, off + r * 4 + 1, none⟩) bl).trans z1
      clear hf1 hf2 r0 r1 r2 p0 p1 p2 p3 k0 k1 k2 k3 z1
      refine wp_region_calm f (by kernel_rfl) (by kernel_rfl) (HF2.out _ (Below.refl _ _).drew) ?_
      repeat (go_big_quiet_step (first | (go_at_call 20; with_reducible refine Calls.mono (HC1.out _ (cbelow_on HBw.out (HF1.out _) HBw.out.size)) ?_; rintro e W1 ⟨rfl, b5⟩; exact ⟨rfl, HF2.out _ (cbelow_on (HF1.out _) b5 (HF1.out _).size)⟩) | (go_at_call 20; with_reducible refine Calls.mono (HC2.out _ (cbelow_on HBw.out (HF1.out _) HBw.out.size)) ?_; rintro e W1 ⟨rfl, b5⟩; exact ⟨rfl, HF2.out _ (cbelow_on (HF1.out _) b5 (HF1.out _).size)⟩)))
      refine wpQuiet_nil ?_
      intro w5 hw5
      obtain ⟨n5, rfl⟩ := hw5
      have HV := chid (HF1.out n5)
      clear HF1 HF2 r0' r1' r2' p0' p1' p2' p3' k0' k1' k2' k3' z1'
      generalize f n5 = w5 at *
      have HB5 := chid (cbelow_on HBw.out HV.out HBw.out.size)
      clear HC1 HC2 hsub hr2 hr3 q4b q6 q7 q8
      refine (‹∀ (a : Act) (w : World), _ → _› _ _ ?_)
      go_wp
      refine ⟨?_, ?_⟩
      · repeat apply Exists.intro
        refine ⟨?_, rfl⟩
        exact ⟨i + 2, by go_num, by have := HO.out; omega, chid (by have := HO.out; omega), HQ2.out, chid (cbelow_on HW.out HV.out HW.out.size)⟩
      · simp; omega
    · have hlt' : ¬ (i : Int) < (M : Int) := by omega
      have hl1 : M < c.parts.length := by have := hN.out; omega
      obtain ⟨u1, f1, v1⟩ := HXw.out M hl1
      have HC1 := chid (fun W (hW : Below w.heap.size w W) => HI.out _ (List.getElem_mem hl1) u1 W (v1.next hW))
      obtain ⟨ad1, cap1, rfl, -, -⟩ := v1.parts.shape
      obtain ⟨p0, p1, p2, p3⟩ := f1.keep (w' := wr) (fun q => HBw.out.cell (p := ⟨b, q, none⟩) hbl)
      obtain ⟨s1, hs1⟩ : ∃ s1, Hid (s1 = csort ladF wn cn ln c.parts[M]) := ⟨_, chid rfl⟩
      rw [← hs1.out] at HC1
      have Hs1 : Hid (s1 = ss.getD (ss.length - 1) 0) := by show _ = _; rw [hsl.out, hs1.out, hss.out, show M + 1 - 1 = M from rfl, getD_map c.parts hl1]; congr 1; simp [List.getD, List.getElem?_eq_getElem hl1]
      generalize c.parts[M] = t1 at *
      have HA4 := chid a4
      have HA3 := chid a3
      have hi3 : M < M + 1 := by omega
      have hc3 : (M : Int) + 1 ≤ 8192 := by omega
      clear f1 v1 hs1 hlt a4 a3
      by_cases q2 : s1 = 3
      · have hT : R = true := HR.out.2 ⟨by have := hsl.out; omega, by rw [hsl.out]; exact HA3.out, HA4.out, fun q h1 h2 => HQ.out q h1 (by have := hsl.out; have := HO.out; omega), by rw [← Hs1.out]; exact q2⟩
        subst hT
        subst q2
        go_wp2_with fail
        obtain ⟨f, hf1, hf2⟩ := calm wr
        have HF1 := chid hf1
        have HF2 := chid hf2
        have r0' : ∀ n, (f n).cell? ⟨w.heap.size, 0, none⟩ = some (.int .i64 wn) := fun n => ((hf1 n).cell (p := ⟨w.heap.size, 0, none⟩) rl).trans r0
        have r1' : ∀ n, (f n).cell? ⟨w.heap.size, 1, none⟩ = some (.int .i64 cn) := fun n => ((hf1 n).cell (p := ⟨w.heap.size, 1, none⟩) rl).trans r1
        have r2' : ∀ n, (f n).cell? ⟨w.heap.size, 2, none⟩ = some (.int .i64 ln) := fun n => ((hf1 n).cell (p := ⟨w.heap.size, 2, none⟩) rl).trans r2
        have p0' : ∀ n, (f n).cell? ⟨b, off + (M) * 4, none⟩ = some (.int .i64 t1.op) := fun n => ((hf1 n).cell (p := ⟨b, off + (M) * 4, none⟩) bl).trans p0
        have p1' : ∀ n, (f n).cell? ⟨b, off + (M) * 4 + 1, none⟩ = some (.int .i64 t1.n) := fun n => ((hf1 n).cell (p := ⟨b, off + (M) * 4 + 1, none⟩) bl).trans p1
        have p2' : ∀ n, (f n).cell? ⟨b, off + (M) * 4 + 2, none⟩ = some (.int .i64 t1.m) := fun n => ((hf1 n).cell (p := ⟨b, off + (M) * 4 + 2, none⟩) bl).trans p2
        have p3' : ∀ n, (f n).cell? ⟨b, off + (M) * 4 + 3, none⟩ = some (.slice ad1 t1.parts.length cap1) := fun n => ((hf1 n).cell (p := ⟨b, off + (M) * 4 + 3, none⟩) bl).trans p3
        clear hf1 hf2 r0 r1 r2 p0 p1 p2 p3
        refine wp_region_calm f (by kernel_rfl) (by kernel_rfl) (HF2.out _ (Below.refl _ _).drew) ?_
        repeat (go_big_quiet_step (first | (go_at_call 20; with_reducible refine Calls.mono (HC1.out _ (cbelow_on HBw.out (HF1.out _) HBw.out.size)) ?_; rintro e W1 ⟨rfl, b5⟩; exact ⟨rfl, HF2.out _ (cbelow_on (HF1.out _) b5 (HF1.out _).size)⟩)))
        refine wpQuiet_nil ?_
        intro w5 hw5
        obtain ⟨n5, rfl⟩ := hw5
        have HV := chid (HF1.out n5)
        clear HF1 HF2 r0' r1' r2' p0' p1' p2' p3'
        generalize f n5 = w5 at *
        have HB5 := chid (cbelow_on HBw.out HV.out HBw.out.size)
        go_wp2_with fail
        go_ret
        exact ⟨rfl, HB5.out⟩
      · have hT : R = false := bfalse HR.out (fun h => q2 (by rw [Hs1.out]; exact h.2.2.2.2))
        subst hT
        have d5 : (s1 == 3) = false := by simpa using q2
        go_wp2_with fail
        obtain ⟨f, hf1, hf2⟩ := calm wr
        have HF1 := chid hf1
        have HF2 := chid hf2
        have r0' : ∀ n, (f n).cell? ⟨w.heap.size, 0, none⟩ = some (.int .i64 wn) := fun n => ((hf1 n).cell (p := ⟨w.heap.size, 0, none⟩) rl).trans r0
        have r1' : ∀ n, (f n).cell? ⟨w.heap.size, 1, none⟩ = some (.int .i64 cn) := fun n => ((hf1 n).cell (p := ⟨w.heap.size, 1, none⟩) rl).trans r1
        have r2' : ∀ n, (f n).cell? ⟨w.heap.size, 2, none⟩ = some (.int .i64 ln) := fun n => ((hf1 n).cell (p := ⟨w.heap.size, 2, none⟩) rl).trans r2
        have p0' : ∀ n, (f n).cell? ⟨b, off + (M) * 4, none⟩ = some (.int .i64 t1.op) := fun n => ((hf1 n).cell (p := ⟨b, off + (M) * 4, none⟩) bl).trans p0
        have p1' : ∀ n, (f n).cell? ⟨b, off + (M) * 4 + 1, none⟩ = some (.int .i64 t1.n) := fun n => ((hf1 n).cell (p := ⟨b, off + (M) * 4 + 1, none⟩) bl).trans p1
        have p2' : ∀ n, (f n).cell? ⟨b, off + (M) * 4 + 2, none⟩ = some (.int .i64 t1.m) := fun n => ((hf1 n).cell (p := ⟨b, off + (M) * 4 + 2, none⟩) bl).trans p2
        have p3' : ∀ n, (f n).cell? ⟨b, off + (M) * 4 + 3, none⟩ = some (.slice ad1 t1.parts.length cap1) := fun n => ((hf1 n).cell (p := ⟨b, off + (M) * 4 + 3, none⟩) bl).trans p3
        clear hf1 hf2 r0 r1 r2 p0 p1 p2 p3
        refine wp_region_calm f (by kernel_rfl) (by kernel_rfl) (HF2.out _ (Below.refl _ _).drew) ?_
        repeat (go_big_quiet_step (first | (go_at_call 20; with_reducible refine Calls.mono (HC1.out _ (cbelow_on HBw.out (HF1.out _) HBw.out.size)) ?_; rintro e W1 ⟨rfl, b5⟩; exact ⟨rfl, HF2.out _ (cbelow_on (HF1.out _) b5 (HF1.out _).size)⟩)))
        refine wpQuiet_nil ?_
        intro w5 hw5
        obtain ⟨n5, rfl⟩ := hw5
        have HV := chid (HF1.out n5)
        clear HF1 HF2 r0' r1' r2' p0' p1' p2' p3'
        generalize f n5 = w5 at *
        have HB5 := chid (cbelow_on HBw.out HV.out HBw.out.size)
        go_wp2_with fail
        go_ret
        exact ⟨rfl, HB5.out⟩

theorem csort_out (wn cn ln : Int) (t : Co) (h : ¬ (1 ≤ t.op ∧ t.op ≤ 32)) : csort ladF wn cn ln t = 0 := by rw [csort_eq, if_neg h]
theorem csort_unfit (wn cn ln : Int) (t : Co) (h : fitsB t.op.toNat wn cn ln t = false) : csort ladF wn cn ln t = 0 := by
  rw [csort_eq]
  split
  · rw [if_neg (by rw [h]; decide)]
  · rfl
theorem ar_ne : ∀ k, 1 ≤ k → k ≤ 32 → (arT.getD k (-2) == -2) = false := op_cases rfl rfl rfl rfl rfl rfl rfl rfl rfl rfl rfl rfl rfl rfl rfl rfl rfl rfl rfl rfl rfl rfl rfl rfl rfl rfl rfl rfl rfl rfl rfl rfl
theorem ar_nat : ∀ k, 1 ≤ k → k ≤ 32 → k ≠ 32 → ∃ q : Nat, q ≤ 3 ∧ arT.getD k (-2) = (q : Int) := by
  have h : ∀ k : Fin 33, 1 ≤ k.val → k.val ≠ 32 → ∃ q : Fin 4, arT.getD k.val (-2) = ((q.val : Nat) : Int) := by decide
  intro k h1 h2 h3
  obtain ⟨q, hq⟩ := h ⟨k, by omega⟩ h1 h3
  exact ⟨q.val, by have := q.isLt; omega, hq⟩
theorem mk_len : ∀ k : Fin 33, ∀ x, mkT.getD k.val none = some x → arT.getD k.val (-2) = (x.2.length : Int) := by
  intro k x h
  have key : (List.range 33).all (fun k => match mkT.getD k none with | some x => arT.getD k (-2) == (x.2.length : Int) | none => true) = true := by decide
  have h1 := List.all_eq_true.1 key k.val (List.mem_range.2 k.isLt)
  rw [h] at h1
  simpa using h1
theorem mkF_len {a : Int} {ts ss : List Int} (h : ss.length ≠ ts.length) : mkF a ts ss = 0 := if_neg (fun e => h (by rw [e]))
theorem csort_len (wn cn ln : Int) (t : Co) (q : Nat) (hq : (q : Int) = arT.getD t.op.toNat (-2)) (h : ¬ t.parts.length = q) : csort ladF wn cn ln t = 0 := by
  rw [csort_eq]
  split
  next hk =>
    split
    next hf =>
      split
      · rfl
      · generalize hs : t.parts.map (csort ladF wn cn ln) = ss
        have hl : ss.length = t.parts.length := by rw [← hs]; simp
        unfold sortF
        have hk33 : t.op.toNat < 33 := by omega
        have hk1 : 1 ≤ t.op.toNat := by omega
        clear hk hf
        generalize t.op.toNat = k at *
        cases hm : mkT.getD k none with
        | some x =>
          have h7 : arT.getD k (-2) = (x.2.length : Int) := mk_len ⟨k, hk33⟩ x hm
          exact mkF_len (by omega)
        | none =>
          rcases mk_none ⟨k, hk33⟩ hk1 hm with e | e | e | e | e <;> dsimp only at e <;> subst e
          · have : (q : Int) = 0 := hq
            show (if ss = [] then t.m else 0) = 0
            exact if_neg (fun e => by rw [e] at hl; simp at hl; omega)
          · have : (q : Int) = 1 := hq
            exact alikeF_no (fun e => by have := e.1; omega)
          · have : (q : Int) = 2 := hq
            exact alikeF_no (fun e => by have := e.1; omega)
          · have : (q : Int) = 3 := hq
            show choiceF ss = 0
            unfold choiceF
            split
            · cases ss with
              | nil => exact alikeF_no (fun e => by have := e.1; simp at this)
              | cons x r => exact alikeF_no (fun e => by have := e.1; simp at this hl; omega)
            · rfl
          · exfalso
            have : (q : Int) = -1 := hq
            omega
    · rfl
  · rfl
def padL (ss : List Int) (j : Nat) : List Value := [.int .i64 (if 0 < j then ss.getD 0 0 else 0), .int .i64 (if 1 < j then ss.getD 1 0 else 0), .int .i64 (if 2 < j then ss.getD 2 0 else 0)]
theorem padL_next (ss : List Int) (j : Nat) (h : j < 3) : (padL ss j).set j (.int .i64 (ss.getD j 0)) = padL ss (j + 1) := by
  have hj : j = 0 ∨ j = 1 ∨ j = 2 := by omega
  rcases hj with rfl | rfl | rfl <;> rfl
theorem pad_cell {w : World} {g : Nat} {ss : List Int} {i j : Nat} (h : Box w g (padL ss i)) (hj : j < 3) : ∃ y, w.cell? ⟨g, j, none⟩ = some (.int .i64 y) ∧ w.frozen? ⟨g, j, none⟩ = false := by
  have hj' : j = 0 ∨ j = 1 ∨ j = 2 := by omega
  rcases hj' with rfl | rfl | rfl
  · exact ⟨_, h.cell 0 _ rfl, h.free 0 hj⟩
  · exact ⟨_, h.cell 1 _ rfl, h.free 1 hj⟩
  · exact ⟨_, h.cell 2 _ rfl, h.free 2 hj⟩
theorem csort_fit (wn cn ln : Int) (t : Co) (k : Nat) (ho : t.op = (k : Int)) (h1 : 1 ≤ k) (h2 : k ≤ 32) (hf : fitsB k wn cn ln t = true) (ss : List Int) (hs : ss = t.parts.map (csort ladF wn cn ln)) : csort ladF wn cn ln t = if ss.contains 0 = true then 0 else sortF ladF k t ss := by
  rw [csort_eq, ho, if_pos ⟨by omega, by omega⟩, Int.toNat_natCast, if_pos hf, hs]
theorem mk_rng : ∀ k : Nat, ∀ x, mkT.getD k none = some x → 1 ≤ x.1 ∧ x.1 ≤ 3 := by
  intro k x h
  rcases Nat.lt_or_ge k 33 with hk | hk
  · have key : (List.range 33).all (fun k => match mkT.getD k none with | some x => decide (1 ≤ x.1 ∧ x.1 ≤ 3) | none => true) = true := by decide
    have h1 := List.all_eq_true.1 key k (List.mem_range.2 hk)
    rw [h] at h1
    exact of_decide_eq_true h1
  · have : mkT.getD k none = none := by rw [List.getD_eq_getElem?_getD, List.getElem?_eq_none (by exact hk)]; rfl
    rw [this] at h
    cases h
theorem alike_rng {q : Nat} {ss : List Int} (h : ∀ x, x ∈ ss → 0 ≤ x ∧ x ≤ 3) : 0 ≤ alikeF q ss ∧ alikeF q ss ≤ 3 := by
  unfold alikeF
  split
  next e =>
    cases ss with
    | nil => exact ⟨by decide, by decide⟩
    | cons x r => exact h x (by simp)
  · exact ⟨by decide, by decide⟩
theorem csort_range (wn cn ln : Int) (t : Co) : 0 ≤ csort ladF wn cn ln t ∧ csort ladF wn cn ln t ≤ 3 := by
  induction t using Co.ind with
  | h t ih =>
    have z : (0 : Int) ≤ 0 ∧ (0 : Int) ≤ 3 := ⟨by decide, by decide⟩
    have hm : ∀ x, x ∈ t.parts.map (csort ladF wn cn ln) → 0 ≤ x ∧ x ≤ 3 := fun x hx => by
      obtain ⟨y, hy, rfl⟩ := List.mem_map.1 hx
      exact ih y hy
    rw [csort_eq]
    split
    next hk =>
      split
      next hf =>
        split
        · exact z
        · unfold sortF
          split
          next x hx =>
            unfold mkF
            split
            · have := mk_rng _ _ hx; omega
            · exact z
          · split
            next h6 =>
              split
              · rw [h6] at hf
                simp [fitsB] at hf
                omega
              · exact z
            · split
              · exact alike_rng hm
              · split
                · exact alike_rng hm
                · split
                  · unfold choiceF
                    split
                    · exact alike_rng (fun x hx => hm x (List.mem_of_mem_tail hx))
                    · exact z
                  · unfold ladF
                    split
                    · exact ⟨by decide, by decide⟩
                    · exact z
      · exact z
    · exact z
theorem one_list {α : Type} : ∀ (c : List α), c.length = 1 → ∃ v0, c = [v0]
  | [v0], _ => ⟨v0, rfl⟩
theorem two_list {α : Type} : ∀ (c : List α), c.length = 2 → ∃ v0 v1, c = [v0, v1]
  | [v0, v1], _ => ⟨v0, v1, rfl⟩
theorem three_list {α : Type} : ∀ (c : List α), c.length = 3 → ∃ v0 v1 v2, c = [v0, v1, v2]
  | [v0, v1, v2], _ => ⟨v0, v1, v2, rfl⟩
theorem ladder_ex (p : Prop) : ∃ T : Bool, (T = true ↔ p) := by
  rcases Classical.em p with h | h
  · exact ⟨true, ⟨fun _ => h, fun _ => rfl⟩⟩
  · exact ⟨false, ⟨fun hh => absurd hh (by simp), fun hh => absurd hh h⟩⟩
theorem csort_lad (wn cn ln : Int) (t : Co) (T : Bool) (ho : t.op = 32) (hf : fitsB 32 wn cn ln t = true) (hT : T = true ↔ LadD t (t.parts.map (csort ladF wn cn ln))) : csort ladF wn cn ln t = if T = true then 3 else 0 := by
  rw [csort_eq, ho, if_pos ⟨by decide, by decide⟩, if_pos (by exact hf)]
  rw [ladD_iff] at hT
  by_cases h0 : (t.parts.map (csort ladF wn cn ln)).contains 0 = true
  · rw [if_pos h0, if_neg (fun h => by have := (hT.1 h).1; rw [h0] at this; cases this)]
  · rw [if_neg h0]
    show ladF t _ = _
    by_cases h1 : LadOk t (t.parts.map (csort ladF wn cn ln))
    · rw [ladF_yes h1, if_pos (hT.2 ⟨by simpa using h0, h1⟩)]
    · rw [ladF_no h1, if_neg (fun h => h1 (hT.1 h).2)]
set_option maxHeartbeats 8000000 in
set_option maxRecDepth 20000 in
theorem rSort_front (wn cn ln : Int) (h64 : C64 wn ∧ C64 cn ∧ C64 ln) (t : Co) (ih : ∀ x, x ∈ t.parts → RSo wn cn ln x) (hF : ∀ k : Nat, t.op = (k : Int) → fitsB k wn cn ln t = true → ¬ k = 32 → ∀ q : Nat, arT.getD k (-2) = (q : Int) → ¬ t.parts.length = q) : RSo wn cn ln t := by
  intro v w hs hn
  have HF := chid hs.fit
  have HI := chid ih
  have HS := chid hs
  have H64 := chid h64
  obtain ⟨ad, cap, rfl, hc1, hc2⟩ := hs.parts.shape
  obtain ⟨L, hL⟩ : ∃ L, Hid (L = t.parts.length) := ⟨_, chid rfl⟩
  rw [← hL.out] at hc1 HS ⊢
  obtain ⟨R, hR⟩ : ∃ R, Hid (R = csort ladF wn cn ln t) := ⟨_, chid rfl⟩
  rw [← hR.out]
  obtain ⟨Y0, Y1, B0⟩ := two_boxes w 78 30 [.int .i64 wn, .int .i64 cn, .int .i64 ln] (coL t (.slice ad L cap))
  obtain ⟨w0, hw0⟩ : ∃ w0, Hid (w0 = (w.alloc (.cells [.int .i64 wn, .int .i64 cn, .int .i64 ln].toArray 78)).alloc (.cells (coL t (.slice ad L cap)).toArray 30)) := ⟨_, chid rfl⟩
  rw [← hw0.out] at Y0 Y1 B0
  have X0 := chid Y0
  have X1 := chid Y1
  have HB0 := chid B0
  clear hs ih h64 Y0 Y1 B0
  have a0 := X0.out.cell 0 _ rfl
  have a1 := X0.out.cell 1 _ rfl
  have a2 := X0.out.cell 2 _ rfl
  have c0 := X1.out.cell 0 _ rfl
  have c1 := X1.out.cell 1 _ rfl
  have c2 := X1.out.cell 2 _ rfl
  have c3 := X1.out.cell 3 _ rfl
  have l0 := X0.out.lt
  have l1 := X1.out.lt
  by_cases hk : 1 ≤ t.op ∧ t.op ≤ 32
  case neg =>
    have h0 : R = 0 := by rw [hR.out]; exact csort_out wn cn ln t hk
    subst h0
    have HAr := chid (arity_out t.op hk)
    clear hk hF
    go_enter Tryd.func20, Tryd.ntmps20
    go_wp2_with fail
    refine Calls.mono (HAr.out _) ?_
    rintro e w1 ⟨rfl, rfl⟩
    rw [← hw0.out]
    go_wp2_with fail
    go_ret
    exact ⟨rfl, HB0.out⟩
  obtain ⟨k, hkk⟩ : ∃ k : Nat, t.op = (k : Int) := ⟨t.op.toNat, by omega⟩
  have HK := chid (show 1 ≤ k ∧ k ≤ 32 by omega)
  obtain ⟨n0, hn0⟩ : ∃ n0, Hid (n0 = arT.getD k (-2)) := ⟨_, chid rfl⟩
  have HAr : Hid (∀ W, Calls Tryd.prog 32 #[.int .i64 t.op] W fun e w' => e = .returned (.int .i64 n0) ∧ w' = W) := by rw [hkk, hn0.out]; exact chid (arity_in k HK.out.1 HK.out.2)
  have HFi := chid (fun W => rfields_c k wn cn ln H64.out t hkk HF.out ad L cap W)
  have hF2 := hF k hkk
  have HKo := chid hkk
  clear hkk hk hF
  by_cases hfit : fitsB k wn cn ln t = true
  case neg =>
    have hfit2 : fitsB k wn cn ln t = false := by simpa using hfit
    have h0 : R = 0 := by rw [hR.out]; exact csort_unfit wn cn ln t (by rw [HKo.out]; exact hfit2)
    subst h0
    rw [hfit2] at HFi
    have e0 : (n0 == -2) = false := by rw [hn0.out]; exact ar_ne k HK.out.1 HK.out.2
    clear hfit hfit2 hF2
    go_enter Tryd.func20, Tryd.ntmps20
    go_wp2_with fail
    refine Calls.mono (HAr.out _) ?_
    rintro e w1 ⟨rfl, rfl⟩
    rw [← hw0.out]
    go_wp2_with fail
    refine Calls.mono (HFi.out _) ?_
    rintro e w5 ⟨rfl, b5⟩
    have HB5 := chid (cbelow_on HB0.out b5 HB0.out.size)
    replace X0 := chid (X0.out.next b5)
    replace X1 := chid (X1.out.next b5)
    clear a0 a1 a2 c0 c1 c2 c3 l0 l1
    clear b5
    have a0 := X0.out.cell 0 _ rfl
    have a1 := X0.out.cell 1 _ rfl
    have a2 := X0.out.cell 2 _ rfl
    have c0 := X1.out.cell 0 _ rfl
    have c1 := X1.out.cell 1 _ rfl
    have c2 := X1.out.cell 2 _ rfl
    have c3 := X1.out.cell 3 _ rfl
    have l0 := X0.out.lt
    have l1 := X1.out.lt
    go_wp2_with fail
    go_ret
    exact ⟨rfl, HB5.out⟩
  rw [hfit] at HFi
  by_cases k32 : k = 32
  case pos =>
    have e0 : n0 = -1 := by rw [hn0.out, k32]; rfl
    subst e0
    obtain ⟨T, hT⟩ : ∃ T : Bool, (T = true ↔ LadD t (t.parts.map (csort ladF wn cn ln))) := ladder_ex _
    have HLd := chid (fun W (hW : Below w.heap.size w W) => rladder_c wn cn ln t hn HI.out _ W (HS.out.parts.next hW) T hT)
    have hRT : Hid (R = if T = true then 3 else 0) := by show _ = _; rw [hR.out]; exact csort_lad wn cn ln t T (by rw [HKo.out, k32]; rfl) (by rw [k32] at hfit; exact hfit) hT
    clear hT hfit k32 hF2
    go_enter Tryd.func20, Tryd.ntmps20
    go_wp2_with fail
    refine Calls.mono (HAr.out _) ?_
    rintro e w1 ⟨rfl, rfl⟩
    rw [← hw0.out]
    go_wp2_with fail
    refine Calls.mono (HFi.out _) ?_
    rintro e w5 ⟨rfl, b5⟩
    have HB5 := chid (cbelow_on HB0.out b5 HB0.out.size)
    replace X0 := chid (X0.out.next b5)
    replace X1 := chid (X1.out.next b5)
    clear a0 a1 a2 c0 c1 c2 c3 l0 l1
    clear b5
    have a0 := X0.out.cell 0 _ rfl
    have a1 := X0.out.cell 1 _ rfl
    have a2 := X0.out.cell 2 _ rfl
    have c0 := X1.out.cell 0 _ rfl
    have c1 := X1.out.cell 1 _ rfl
    have c2 := X1.out.cell 2 _ rfl
    have c3 := X1.out.cell 3 _ rfl
    have l0 := X0.out.lt
    have l1 := X1.out.lt
    go_wp2_with fail
    refine Calls.mono (HLd.out _ HB5.out) ?_
    rintro e w6 ⟨rfl, b6⟩
    have HB6 := chid (cbelow_on HB5.out b6 HB5.out.size)
    clear b6
    clear a0 a1 a2 c0 c1 c2 c3 l0 l1
    cases T
    · have h0 : R = 0 := hRT.out
      subst h0
      go_wp2_with fail
      go_ret
      exact ⟨rfl, HB6.out⟩
    · have h0 : R = 3 := hRT.out
      subst h0
      go_wp2_with fail
      go_ret
      exact ⟨rfl, HB6.out⟩
  obtain ⟨q, hq3, hq⟩ : ∃ q : Nat, q ≤ 3 ∧ n0 = (q : Int) := by rw [hn0.out]; exact ar_nat k HK.out.1 HK.out.2 k32
  have hlen : ¬ L = q := by rw [hL.out]; exact hF2 hfit k32 q (by rw [← hn0.out, hq])
  subst hq
  have h0 : R = 0 := by rw [hR.out]; exact csort_len wn cn ln t q (by rw [HKo.out]; exact hn0.out) (by rw [← hL.out]; exact hlen)
  subst h0
  have e1 : ((L : Int) != (q : Int)) = true := by simp; omega
  clear hF2
  go_enter Tryd.func20, Tryd.ntmps20
  go_wp2_with fail
  refine Calls.mono (HAr.out _) ?_
  rintro e w1 ⟨rfl, rfl⟩
  rw [← hw0.out]
  go_wp2_with fail
  refine Calls.mono (HFi.out _) ?_
  rintro e w5 ⟨rfl, b5⟩
  have HB5 := chid (cbelow_on HB0.out b5 HB0.out.size)
  replace X0 := chid (X0.out.next b5)
  replace X1 := chid (X1.out.next b5)
  clear a0 a1 a2 c0 c1 c2 c3 l0 l1
  clear b5
  have a0 := X0.out.cell 0 _ rfl
  have a1 := X0.out.cell 1 _ rfl
  have a2 := X0.out.cell 2 _ rfl
  have c0 := X1.out.cell 0 _ rfl
  have c1 := X1.out.cell 1 _ rfl
  have c2 := X1.out.cell 2 _ rfl
  have c3 := X1.out.cell 3 _ rfl
  have l0 := X0.out.lt
  have l1 := X1.out.lt
  go_wp2_with fail
  go_ret
  exact ⟨rfl, HB5.out⟩
end Go.Proofs.YtigldebdljfnbaaDoor

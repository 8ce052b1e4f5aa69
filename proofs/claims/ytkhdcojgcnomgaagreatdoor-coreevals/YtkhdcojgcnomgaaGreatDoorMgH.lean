/- The document's Eval, of every formed number and truth. The document's Sort, walked whole. The law CoreEvals, walked. -/
import Derived.Test.YtkhdcojgcnomgaaGreatDoorCrN
import Derived.Test.YtkhdcojgcnomgaaGreatDoorCrS
import Derived.Test.YtkhdcojgcnomgaaGreatDoorCrT
import Derived.Test.YtkhdcojgcnomgaaGreatDoorCrO
import Derived.Test.YtkhdcojgcnomgaaGreatDoorCrP
import Derived.Test.YtkhdcojgcnomgaaGreatDoorCrE
import Derived.Test.YtkhdcojgcnomgaaGreatDoorCrG
import Derived.Test.YtkhdcojgcnomgaaGreatDoorCrH
import Derived.Test.YtkhdcojgcnomgaaGreatDoorCrI
import Derived.Test.YtkhdcojgcnomgaaGreatDoorCrJ
import Derived.Test.YtkhdcojgcnomgaaGreatDoorCrK
import Derived.Test.YtkhdcojgcnomgaaGreatDoorCoH
import Derived.Test.YtkhdcojgcnomgaaGreatDoorCpG
section
namespace Go.Proofs.YtkhdcojgcnomgaaGreatDoor
open Go.RowKit

theorem srt_12 {E : EnvP} {x : Co} (h0 : srt E x ≠ 0) (h3 : srt E x ≠ 3) : srt E x = 1 ∨ srt E x = 2 := by
  have := csort_range E.wins.length E.crons.length 256 x
  show csort ladF _ _ _ x = 1 ∨ csort ladF _ _ _ x = 2
  have a : csort ladF E.wins.length E.crons.length 256 x ≠ 0 := h0
  have b : csort ladF E.wins.length E.crons.length 256 x ≠ 3 := h3
  omega
theorem rEval_all (E : EnvP) (hE : EnvOk E) (t : Co) : Lies t → (srt E t = 1 ∨ srt E t = 2) → REv E t := by
  induction t using Co.ind with
  | h t ih =>
    intro hl h12
    have hz : srt E t ≠ 0 := by omega
    obtain ⟨k, hop, h1, h2, hb, hp, hs⟩ := formed_of hz
    have hG : ∀ x, x ∈ t.parts → Good E x := fun x hx => good_all E hE x (hl.parts hx) (hp x hx)
    have hI : ∀ x, x ∈ t.parts → (srt E x = 1 ∨ srt E x = 2) → REv E x := fun x hx h => ih x hx (hl.parts hx) h
    have hzs : sortF ladF k t (t.parts.map (srt E)) ≠ 0 := by rw [← hs]; exact hz
    rw [hs] at h12
    clear ih hz hs hl
    obtain ⟨op, n, m, ps⟩ := t
    dsimp only at hop hp hG hI hzs h12
    subst hop
    have hks : k = 1 ∨ k = 2 ∨ k = 3 ∨ k = 4 ∨ k = 5 ∨ k = 6 ∨ k = 7 ∨ k = 8 ∨ k = 9 ∨ k = 10 ∨ k = 11 ∨ k = 12 ∨ k = 13 ∨ k = 14 ∨ k = 15 ∨ k = 16 ∨ k = 17 ∨ k = 18 ∨ k = 19 ∨ k = 20 ∨ k = 21 ∨ k = 22 ∨ k = 23 ∨ k = 24 ∨ k = 25 ∨ k = 26 ∨ k = 27 ∨ k = 28 ∨ k = 29 ∨ k = 30 ∨ k = 31 ∨ k = 32 := by omega
    clear h1 h2
    rcases hks with rfl | rfl | rfl | rfl | rfl | rfl | rfl | rfl | rfl | rfl | rfl | rfl | rfl | rfl | rfl | rfl | rfl | rfl | rfl | rfl | rfl | rfl | rfl | rfl | rfl | rfl | rfl | rfl | rfl | rfl | rfl | rfl
    · obtain ⟨e1, -⟩ := mk_of (k := 1) (r := 1) (ts := []) rfl hzs
      obtain rfl := map0 e1
      exact rEval_1 E n m
    · obtain ⟨e1, -⟩ := mk_of (k := 2) (r := 2) (ts := []) rfl hzs
      obtain rfl := map0 e1
      exact rEval_2 E n m
    · obtain ⟨e1, -⟩ := mk_of (k := 3) (r := 1) (ts := []) rfl hzs
      obtain rfl := map0 e1
      exact rEval_3 E n m hE.rep
    · obtain ⟨e1, -⟩ := mk_of (k := 4) (r := 1) (ts := []) rfl hzs
      obtain rfl := map0 e1
      exact rEval_4 E n m (by have h : (belowB n E.wins.length && decide (m = 0)) = true := hb; simp [belowB] at h; omega)
    · obtain ⟨e1, -⟩ := mk_of (k := 5) (r := 2) (ts := []) rfl hzs
      obtain rfl := map0 e1
      exact rEval_5 E n m (by have h : (belowB n E.crons.length && decide (m = 0)) = true := hb; simp [belowB] at h; omega)
    · have hz2 : (if ps.map (srt E) = [] then m else 0) ≠ 0 := hzs
      have e1 : ps.map (srt E) = [] := by
        apply Classical.byContradiction
        intro h
        exact hz2 (if_neg h)
      obtain rfl := map0 e1
      exact rEval_6 E n m
    · obtain ⟨g1, g2, g3, -⟩ := alike_of (show alikeF 1 (ps.map (srt E)) ≠ 0 from hzs)
      obtain ⟨x, rfl⟩ := len1 (by simpa using g1)
      exact rEval_u E 7 n m x (.inl rfl) (fun h => by cases h) (fun h => by cases h) (hI x (by simp) (srt_12 (hp x (by simp)) g2)) (hG x (by simp)).1
    · obtain ⟨e1, -⟩ := mk_of (k := 8) (r := 1) (ts := [1]) rfl hzs
      obtain ⟨x, rfl, q0⟩ := map1 e1
      exact rEval_u E 8 n m x (by decide) (fun h => by cases h) (fun h => by cases h) (hI x (by simp) (.inl q0)) (hG x (by simp)).1
    · obtain ⟨e1, -⟩ := mk_of (k := 9) (r := 2) (ts := [2]) rfl hzs
      obtain ⟨x, rfl, q0⟩ := map1 e1
      exact rEval_u E 9 n m x (by decide) (fun h => by cases h) (fun _ => (hG x (by simp)).2 q0) (hI x (by simp) (.inr q0)) (hG x (by simp)).1
    · obtain ⟨e1, -⟩ := mk_of (k := 10) (r := 1) (ts := [1]) rfl hzs
      obtain ⟨x, rfl, q0⟩ := map1 e1
      exact rEval_u E 10 n m x (by decide) (fun h => by cases h) (fun h => by cases h) (hI x (by simp) (.inl q0)) (hG x (by simp)).1
    · obtain ⟨e1, -⟩ := mk_of (k := 11) (r := 1) (ts := [1]) rfl hzs
      obtain ⟨x, rfl, q0⟩ := map1 e1
      exact rEval_u E 11 n m x (by decide) (fun h => by cases h) (fun h => by cases h) (hI x (by simp) (.inl q0)) (hG x (by simp)).1
    · obtain ⟨e1, -⟩ := mk_of (k := 12) (r := 1) (ts := [1]) rfl hzs
      obtain ⟨x, rfl, q0⟩ := map1 e1
      exact rEval_u E 12 n m x (by decide) (fun h => by cases h) (fun h => by cases h) (hI x (by simp) (.inl q0)) (hG x (by simp)).1
    · obtain ⟨e1, -⟩ := mk_of (k := 13) (r := 1) (ts := [1]) rfl hzs
      obtain ⟨x, rfl, q0⟩ := map1 e1
      exact rEval_u E 13 n m x (by decide) (fun _ => by have h : (decide (0 ≤ n) && decide (1 ≤ m)) = true := hb; simpa using h) (fun h => by cases h) (hI x (by simp) (.inl q0)) (hG x (by simp)).1
    · obtain ⟨e1, -⟩ := mk_of (k := 14) (r := 1) (ts := [1, 1]) rfl hzs
      obtain ⟨x, y, rfl, q0, q1⟩ := map2 e1
      exact rEval_14 E n m x y (hI x (by simp) (.inl q0)) (hI y (by simp) (.inl q1)) (hG x (by simp)).1 (hG y (by simp)).1
    · obtain ⟨e1, -⟩ := mk_of (k := 15) (r := 1) (ts := [1, 1]) rfl hzs
      obtain ⟨x, y, rfl, q0, q1⟩ := map2 e1
      exact rEval_15 E n m x y (hI x (by simp) (.inl q0)) (hI y (by simp) (.inl q1)) (hG x (by simp)).1 (hG y (by simp)).1
    · obtain ⟨e1, -⟩ := mk_of (k := 16) (r := 1) (ts := [1, 1]) rfl hzs
      obtain ⟨x, y, rfl, q0, q1⟩ := map2 e1
      exact rEval_16 E n m x y (hI x (by simp) (.inl q0)) (hI y (by simp) (.inl q1)) (hG x (by simp)).1 (hG y (by simp)).1
    · obtain ⟨e1, -⟩ := mk_of (k := 17) (r := 1) (ts := [1, 1]) rfl hzs
      obtain ⟨x, y, rfl, q0, q1⟩ := map2 e1
      exact rEval_17 E n m x y (hI x (by simp) (.inl q0)) (hI y (by simp) (.inl q1)) (hG x (by simp)).1 (hG y (by simp)).1
    · obtain ⟨e1, -⟩ := mk_of (k := 18) (r := 2) (ts := [1, 1]) rfl hzs
      obtain ⟨x, y, rfl, q0, q1⟩ := map2 e1
      exact rEval_18 E n m x y (hI x (by simp) (.inl q0)) (hI y (by simp) (.inl q1)) (hG x (by simp)).1 (hG y (by simp)).1
    · obtain ⟨e1, -⟩ := mk_of (k := 19) (r := 2) (ts := [1, 1]) rfl hzs
      obtain ⟨x, y, rfl, q0, q1⟩ := map2 e1
      exact rEval_19 E n m x y (hI x (by simp) (.inl q0)) (hI y (by simp) (.inl q1)) (hG x (by simp)).1 (hG y (by simp)).1
    · obtain ⟨e1, -⟩ := mk_of (k := 20) (r := 2) (ts := [1, 1]) rfl hzs
      obtain ⟨x, y, rfl, q0, q1⟩ := map2 e1
      exact rEval_20 E n m x y (hI x (by simp) (.inl q0)) (hI y (by simp) (.inl q1)) (hG x (by simp)).1 (hG y (by simp)).1
    · obtain ⟨e1, -⟩ := mk_of (k := 21) (r := 2) (ts := [1, 1]) rfl hzs
      obtain ⟨x, y, rfl, q0, q1⟩ := map2 e1
      exact rEval_21 E n m x y (hI x (by simp) (.inl q0)) (hI y (by simp) (.inl q1)) (hG x (by simp)).1 (hG y (by simp)).1
    · obtain ⟨e1, -⟩ := mk_of (k := 22) (r := 2) (ts := [1, 1]) rfl hzs
      obtain ⟨x, y, rfl, q0, q1⟩ := map2 e1
      exact rEval_22 E n m x y (hI x (by simp) (.inl q0)) (hI y (by simp) (.inl q1)) (hG x (by simp)).1 (hG y (by simp)).1
    · obtain ⟨e1, -⟩ := mk_of (k := 23) (r := 1) (ts := [1, 1]) rfl hzs
      obtain ⟨x, y, rfl, q0, q1⟩ := map2 e1
      exact rEval_23 E n m x y (hI x (by simp) (.inl q0)) (hI y (by simp) (.inl q1)) (hG x (by simp)).1 (hG y (by simp)).1
    · obtain ⟨e1, -⟩ := mk_of (k := 24) (r := 1) (ts := [1, 1]) rfl hzs
      obtain ⟨x, y, rfl, q0, q1⟩ := map2 e1
      exact rEval_24 E n m x y (hI x (by simp) (.inl q0)) (hI y (by simp) (.inl q1)) (hG x (by simp)).1 (hG y (by simp)).1
    · obtain ⟨e1, -⟩ := mk_of (k := 25) (r := 2) (ts := [2, 2]) rfl hzs
      obtain ⟨x, y, rfl, q0, q1⟩ := map2 e1
      exact rEval_25 E n m x y (hI x (by simp) (.inr q0)) (hI y (by simp) (.inr q1))
    · obtain ⟨e1, -⟩ := mk_of (k := 26) (r := 2) (ts := [2, 2]) rfl hzs
      obtain ⟨x, y, rfl, q0, q1⟩ := map2 e1
      exact rEval_26 E n m x y (hI x (by simp) (.inr q0)) (hI y (by simp) (.inr q1))
    · obtain ⟨g1, g2, g3, -⟩ := alike_of (show alikeF 2 (ps.map (srt E)) ≠ 0 from hzs)
      obtain ⟨x, y, rfl⟩ := len2 (by simpa using g1)
      have g4 : srt E y = srt E x := g3 (srt E y) (by simp)
      exact rEval_27 E n m x y (hI x (by simp) (srt_12 (hp x (by simp)) g2)) (hI y (by simp) (srt_12 (hp y (by simp)) (by rw [g4]; exact g2)))
    · obtain ⟨a, e, ea⟩ := choice_of (show choiceF (ps.map (srt E)) ≠ 0 from hzs)
      have hL : ps.length = 3 := by have := congrArg List.length e; simpa using this
      obtain ⟨x, y, z, rfl⟩ := len3 hL
      simp only [List.map_cons, List.map_nil, List.cons.injEq, and_true] at e
      obtain ⟨e1, e2, e3⟩ := e
      have e4 : a = 1 ∨ a = 2 := by have h : choiceF _ = 1 ∨ choiceF _ = 2 := h12; rw [ea] at h; exact h
      exact rEval_28 E n m x y z (hI x (by simp) (.inr e1)) (hI y (by simp) (by rw [e2]; exact e4)) (hI z (by simp) (by rw [e3]; exact e4))
    · obtain ⟨-, e2⟩ := mk_of (k := 29) (r := 3) (ts := []) rfl hzs
      exfalso
      rw [e2] at h12
      rcases h12 with h | h <;> cases h
    · obtain ⟨-, e2⟩ := mk_of (k := 30) (r := 3) (ts := [1]) rfl hzs
      exfalso
      rw [e2] at h12
      rcases h12 with h | h <;> cases h
    · obtain ⟨-, e2⟩ := mk_of (k := 31) (r := 3) (ts := [1]) rfl hzs
      exfalso
      rw [e2] at h12
      rcases h12 with h | h <;> cases h
    · exfalso
      have e : sortF ladF 32 ⟨((32 : Nat) : Int), n, m, ps⟩ (ps.map (srt E)) = ladF ⟨((32 : Nat) : Int), n, m, ps⟩ (ps.map (srt E)) := rfl
      rw [e] at h12
      unfold ladF at h12
      split at h12 <;> rcases h12 with h | h <;> cases h
end Go.Proofs.YtkhdcojgcnomgaaGreatDoor
end
section
namespace Go.Proofs.YtkhdcojgcnomgaaGreatDoor
open Go.RowKit

theorem rSort_step (wn cn ln : Int) (h64 : C64 wn ∧ C64 cn ∧ C64 ln) (t : Co) (ih : ∀ x, x ∈ t.parts → RSo wn cn ln x) : RSo wn cn ln t := by
  by_cases h : ∃ k : Nat, t.op = (k : Int) ∧ fitsB k wn cn ln t = true ∧ ¬ k = 32 ∧ ∃ q : Nat, arT.getD k (-2) = (q : Int) ∧ t.parts.length = q
  case neg => exact rSort_front wn cn ln h64 t ih (fun k h1 h2 h3 q h4 h5 => h ⟨k, h1, h2, h3, q, h4, h5⟩)
  obtain ⟨k, h1, h2, h3, q, h4, h5⟩ := h
  have hr : 1 ≤ k ∧ k ≤ 31 := by
    rcases Nat.lt_or_ge k 33 with hk | hk
    · by_cases h0 : k = 0
      · subst h0; exfalso; have : (q : Int) = -2 := h4.symm; omega
      · omega
    · exfalso
      have : arT.getD k (-2) = -2 := by rw [List.getD_eq_getElem?_getD, List.getElem?_eq_none (by exact hk)]; rfl
      rw [this] at h4
      omega
  have hks : (k = 1 ∨ k = 2 ∨ k = 3 ∨ k = 4 ∨ k = 5 ∨ k = 6 ∨ k = 29) ∨ (k = 28) ∨ (k = 7 ∨ k = 8 ∨ k = 9 ∨ k = 10) ∨ (k = 11 ∨ k = 12 ∨ k = 13 ∨ k = 30 ∨ k = 31) ∨ (k = 14 ∨ k = 15 ∨ k = 16) ∨ (k = 17 ∨ k = 18) ∨ (k = 19 ∨ k = 20 ∨ k = 21) ∨ (k = 22 ∨ k = 23) ∨ (k = 24 ∨ k = 25) ∨ (k = 26 ∨ k = 27) := by omega
  rcases hks with h | h | h | h | h | h | h | h | h | h
  · have hq : (q : Int) = 0 := by rcases h with rfl | rfl | rfl | rfl | rfl | rfl | rfl <;> exact h4.symm
    exact rSort_G0 wn cn ln h64 t ih k h1 h h2 (by omega)
  · have hq : (q : Int) = 3 := by subst h; exact h4.symm
    exact rSort_G1 wn cn ln h64 t ih k h1 h h2 (by omega)
  · have hq : (q : Int) = 1 := by rcases h with rfl | rfl | rfl | rfl <;> exact h4.symm
    exact rSort_H0 wn cn ln h64 t ih k h1 h h2 (by omega)
  · have hq : (q : Int) = 1 := by rcases h with rfl | rfl | rfl | rfl | rfl <;> exact h4.symm
    exact rSort_H1 wn cn ln h64 t ih k h1 h h2 (by omega)
  · have hq : (q : Int) = 2 := by rcases h with rfl | rfl | rfl <;> exact h4.symm
    exact rSort_I0 wn cn ln h64 t ih k h1 h h2 (by omega)
  · have hq : (q : Int) = 2 := by rcases h with rfl | rfl <;> exact h4.symm
    exact rSort_I1 wn cn ln h64 t ih k h1 h h2 (by omega)
  · have hq : (q : Int) = 2 := by rcases h with rfl | rfl | rfl <;> exact h4.symm
    exact rSort_J0 wn cn ln h64 t ih k h1 h h2 (by omega)
  · have hq : (q : Int) = 2 := by rcases h with rfl | rfl <;> exact h4.symm
    exact rSort_J1 wn cn ln h64 t ih k h1 h h2 (by omega)
  · have hq : (q : Int) = 2 := by rcases h with rfl | rfl <;> exact h4.symm
    exact rSort_K0 wn cn ln h64 t ih k h1 h h2 (by omega)
  · have hq : (q : Int) = 2 := by rcases h with rfl | rfl <;> exact h4.symm
    exact rSort_K1 wn cn ln h64 t ih k h1 h h2 (by omega)
end Go.Proofs.YtkhdcojgcnomgaaGreatDoor
end
section
namespace Go.Proofs.YtkhdcojgcnomgaaGreatDoor
open Go.RowKit

theorem rSort_e (wn cn ln : Int) (h64 : C64 wn ∧ C64 cn ∧ C64 ln) (t : Co) : RSo wn cn ln t := by
  induction t using Co.ind with
  | h t ih => exact rSort_step wn cn ln h64 t ih
set_option maxHeartbeats 8000000 in
set_option maxRecDepth 20000 in
theorem coreEvals_c (t : Co) (v : Value) (E : EnvP) (v1 v2 : Value) (w : World) (hs : CSits w t v) (he : EnvAt w E v1 v2) (hg : GlE w) : Calls Tryz.prog 5 #[coV t v, envV E v1 v2] w fun e w' => e = .returned (.bool true) ∧ Below w.heap.size w w' := by
  have HS := chid hs
  have HE := chid he
  have HG := chid hg
  have HAw := chid (fun W (hW : Below w.heap.size w W) => awake15_c W (GlE.next HG.out hW))
  have HSm := chid (fun W (hW : Below w.heap.size w W) => csmall_c t v W (HS.out.next hW))
  have H64 : Hid (C64 E.wins.length ∧ C64 E.crons.length ∧ C64 256) := chid ⟨⟨by omega, by have := HE.out.ok.wl; omega⟩, ⟨by omega, by have := HE.out.ok.cl; omega⟩, by unfold C64; decide⟩
  have HSo := chid (fun W (hW : Below w.heap.size w W) (hn : cnodes t ≤ 4096) => rSort_e E.wins.length E.crons.length 256 H64.out t v W (HS.out.next hW) (by omega))
  have HEd := chid (fun (h12 : srt E t = 1 ∨ srt E t = 2) W (hW : Below w.heap.size w W) => rEval_all E HE.out.ok t ⟨w, v, HS.out⟩ h12 v v1 v2 W (HS.out.next hW) (HE.out.next hW))
  have hL1 : E.wins.length ≤ 9223372036854775807 := he.ok.wl
  have hL2 : E.crons.length ≤ 9223372036854775807 := he.ok.cl
  obtain ⟨ad, cap, rfl, -, -⟩ := hs.parts.shape
  obtain ⟨a1, c1, a2, c2, rfl, rfl⟩ := he.shape
  obtain ⟨Y0, Y1, B0⟩ := two_boxes w 24 48 (coL t (.slice ad t.parts.length cap)) [.int .i64 E.rep, .slice a1 E.wins.length c1, .slice a2 E.crons.length c2]
  have HY0 := chid Y0
  have HY1 := chid Y1
  have HB0 := chid B0
  clear hs he hg Y0 Y1 B0
  go_enter Tryz.func5, Tryz.ntmps5
  go_wp2_with fail
  refine Calls.mono (HAw.out _ HB0.out) ?_
  rintro e w1 ⟨rfl, b1⟩
  have B1 := chid (cbelow_on HB0.out b1 HB0.out.size)
  replace HY0 := chid (HY0.out.next b1)
  replace HY1 := chid (HY1.out.next b1)
  clear b1 HB0
  have p0 := HY0.out.cell 0 _ rfl
  have p1 := HY0.out.cell 1 _ rfl
  have p2 := HY0.out.cell 2 _ rfl
  have p3 := HY0.out.cell 3 _ rfl
  have pl := HY0.out.lt
  go_wp2_with fail
  refine Calls.mono (HSm.out _ B1.out) ?_
  rintro e w2 ⟨rfl, b2⟩
  have B2 := chid (cbelow_on B1.out b2 B1.out.size)
  replace HY0 := chid (HY0.out.next b2)
  replace HY1 := chid (HY1.out.next b2)
  clear b2 B1 p0 p1 p2 p3 pl HSm
  by_cases hn : cnodes t ≤ 4096
  case neg =>
    rw [decide_eq_false hn]
    go_wp2_with fail
    refine Calls.mono (HAw.out _ B2.out) ?_
    rintro e w3 ⟨rfl, b3⟩
    have B3 := chid (cbelow_on B2.out b3 B2.out.size)
    clear b3
    go_wp2_with fail
    go_ret
    exact ⟨rfl, B3.out⟩
  rw [decide_eq_true hn]
  have p0 := HY0.out.cell 0 _ rfl
  have p1 := HY0.out.cell 1 _ rfl
  have p2 := HY0.out.cell 2 _ rfl
  have p3 := HY0.out.cell 3 _ rfl
  have pl := HY0.out.lt
  have q0 := HY1.out.cell 0 _ rfl
  have q1 := HY1.out.cell 1 _ rfl
  have q2 := HY1.out.cell 2 _ rfl
  have ql := HY1.out.lt
  have HEv := chid (fun W (hW : Below w.heap.size w W) => cEval_c E t (.slice ad t.parts.length cap) _ _ W (HS.out.next hW) (by omega) (HE.out.next hW) (GlE.next HG.out hW))
  have HSo2 := chid (fun W (hW : Below w.heap.size w W) => HSo.out W hW hn)
  obtain ⟨s, hsd⟩ : ∃ s, Hid (s = srt E t) := ⟨_, chid rfl⟩
  have hs12 : Hid (csort ladF E.wins.length E.crons.length 256 t = s) := by show _ = _; rw [hsd.out]
  rw [hs12.out] at HSo2
  rw [← hsd.out] at HEv HEd
  clear HAw HSo
  by_cases hx : s = 1 ∨ s = 2
  case neg =>
    have e1 : evV s (telV E t) = .tuple #[.agg #[.int .i64 0, .int .i64 0], .int .i64 1] := if_neg hx
    rw [e1] at HEv
    have k1 : (s != 1) = true := by simp; omega
    have k2 : (s != 2) = true := by simp; omega
    clear hx e1
    go_wp2_with fail
    refine Calls.mono (HEv.out _ B2.out) ?_
    rintro e w3 ⟨rfl, b⟩
    have B3 := chid (cbelow_on B2.out b B2.out.size)
    replace HY0 := chid (HY0.out.next b)
    replace HY1 := chid (HY1.out.next b)
    clear b B2 p0 p1 p2 p3 pl q0 q1 q2 ql HEv
    obtain ⟨w4, hw4⟩ : ∃ w4, Hid (w4 = w3.alloc (.cells #[.int .i64 0, .int .i64 0] 51)) := ⟨_, chid rfl⟩
    have Xr : Hid (Box w4 w3.heap.size [.int .i64 0, .int .i64 0]) := by rw [hw4.out]; exact chid (Box.new w3 [.int .i64 0, .int .i64 0] 51)
    have ka : Below w3.heap.size w3 w4 := by rw [hw4.out]; exact (Below.refl _ _).alloc (Nat.le_refl _) _
    have B4 := chid (cbelow_on B3.out ka B3.out.size)
    have HZ0 := chid (HY0.out.next ka)
    have HZ1 := chid (HY1.out.next ka)
    clear ka
    have p0 := HY0.out.cell 0 _ rfl
    have p1 := HY0.out.cell 1 _ rfl
    have p2 := HY0.out.cell 2 _ rfl
    have p3 := HY0.out.cell 3 _ rfl
    have q0 := HY1.out.cell 0 _ rfl
    have q1 := HY1.out.cell 1 _ rfl
    have q2 := HY1.out.cell 2 _ rfl
    have pl := HY0.out.lt
    have ql := HY1.out.lt
    have pl1 : w.heap.size < w3.heap.size + 1 := by omega
    have ql1 : w.heap.size + 1 < w3.heap.size + 1 := by omega
    go_wp2_with fail
    rw [← hw4.out]
    clear hw4 p0 p1 p2 p3 pl pl1 q0 q1 q2 ql ql1
    refine Calls.mono (HSo2.out _ B4.out) ?_
    rintro e w5 ⟨rfl, b⟩
    have B5 := chid (cbelow_on B4.out b B4.out.size)
    replace HZ0 := chid (HZ0.out.next b)
    replace HZ1 := chid (HZ1.out.next b)
    replace Xr := chid (Xr.out.next b)
    clear b B3 B4 HY0 HY1 HSo2
    have p0 := HZ0.out.cell 0 _ rfl
    have p1 := HZ0.out.cell 1 _ rfl
    have p2 := HZ0.out.cell 2 _ rfl
    have p3 := HZ0.out.cell 3 _ rfl
    have q0 := HZ1.out.cell 0 _ rfl
    have q1 := HZ1.out.cell 1 _ rfl
    have q2 := HZ1.out.cell 2 _ rfl
    have x0 := Xr.out.cell 0 _ rfl
    have x1 := Xr.out.cell 1 _ rfl
    have pl := HZ0.out.lt
    have ql := HZ1.out.lt
    have xl := Xr.out.lt
    go_wp2_with fail
    go_ret
    exact ⟨rfl, B5.out⟩
  have e1 : evV s (telV E t) = .tuple #[reV (telV E t), .int .i64 0] := (if_pos hx).trans (by rw [rsV_re])
  rw [e1] at HEv
  have HEd2 := chid (HEd.out hx)
  obtain ⟨r, hr⟩ : ∃ r, Hid (r = telV E t) := ⟨_, chid rfl⟩
  rw [← hr.out] at HEv HEd2
  go_wp2_with fail
  refine Calls.mono (HEv.out _ B2.out) ?_
  rintro e w3 ⟨rfl, b⟩
  have B3 := chid (cbelow_on B2.out b B2.out.size)
  replace HY0 := chid (HY0.out.next b)
  replace HY1 := chid (HY1.out.next b)
  clear b B2 p0 p1 p2 p3 pl q0 q1 q2 ql HEv
  obtain ⟨w4, hw4⟩ : ∃ w4, Hid (w4 = w3.alloc (.cells #[.int .i64 r.2, .int .i64 r.1] 51)) := ⟨_, chid rfl⟩
  have Xr : Hid (Box w4 w3.heap.size [.int .i64 r.2, .int .i64 r.1]) := by rw [hw4.out]; exact chid (Box.new w3 [.int .i64 r.2, .int .i64 r.1] 51)
  have ka : Below w3.heap.size w3 w4 := by rw [hw4.out]; exact (Below.refl _ _).alloc (Nat.le_refl _) _
  have B4 := chid (cbelow_on B3.out ka B3.out.size)
  have HZ0 := chid (HY0.out.next ka)
  have HZ1 := chid (HY1.out.next ka)
  clear ka
  have p0 := HY0.out.cell 0 _ rfl
  have p1 := HY0.out.cell 1 _ rfl
  have p2 := HY0.out.cell 2 _ rfl
  have p3 := HY0.out.cell 3 _ rfl
  have q0 := HY1.out.cell 0 _ rfl
  have q1 := HY1.out.cell 1 _ rfl
  have q2 := HY1.out.cell 2 _ rfl
  have pl := HY0.out.lt
  have ql := HY1.out.lt
  have pl1 : w.heap.size < w3.heap.size + 1 := by omega
  have ql1 : w.heap.size + 1 < w3.heap.size + 1 := by omega
  go_wp2_with fail
  rw [← hw4.out]
  clear hw4 p0 p1 p2 p3 pl pl1 q0 q1 q2 ql ql1
  refine Calls.mono (HSo2.out _ B4.out) ?_
  rintro e w5 ⟨rfl, b⟩
  have B5 := chid (cbelow_on B4.out b B4.out.size)
  replace HZ0 := chid (HZ0.out.next b)
  replace HZ1 := chid (HZ1.out.next b)
  replace Xr := chid (Xr.out.next b)
  clear b B3 B4 HY0 HY1 HSo2
  have HEd3 := HEd2
  clear HEd2 HEd
  have p0 := HZ0.out.cell 0 _ rfl
  have p1 := HZ0.out.cell 1 _ rfl
  have p2 := HZ0.out.cell 2 _ rfl
  have p3 := HZ0.out.cell 3 _ rfl
  have q0 := HZ1.out.cell 0 _ rfl
  have q1 := HZ1.out.cell 1 _ rfl
  have q2 := HZ1.out.cell 2 _ rfl
  have x0 := Xr.out.cell 0 _ rfl
  have x1 := Xr.out.cell 1 _ rfl
  have pl := HZ0.out.lt
  have ql := HZ1.out.lt
  have xl := Xr.out.lt
  rcases hx with rfl | rfl
  · go_wp2_with fail
    obtain ⟨f, hf1, hf2⟩ := calm w5
    have HF1 := chid hf1
    have HF2 := chid hf2
    have p0' : ∀ n, (f n).cell? ⟨w.heap.size, 0, none⟩ = some (.int .i64 t.op) := fun n => ((hf1 n).cell (p := ⟨w.heap.size, 0, none⟩) pl).trans p0
    have p1' : ∀ n, (f n).cell? ⟨w.heap.size, 1, none⟩ = some (.int .i64 t.n) := fun n => ((hf1 n).cell (p := ⟨w.heap.size, 1, none⟩) pl).trans p1
    have p2' : ∀ n, (f n).cell? ⟨w.heap.size, 2, none⟩ = some (.int .i64 t.m) := fun n => ((hf1 n).cell (p := ⟨w.heap.size, 2, none⟩) pl).trans p2
    have p3' : ∀ n, (f n).cell? ⟨w.heap.size, 3, none⟩ = some (.slice ad t.parts.length cap) := fun n => ((hf1 n).cell (p := ⟨w.heap.size, 3, none⟩) pl).trans p3
    have q0' : ∀ n, (f n).cell? ⟨w.heap.size + 1, 0, none⟩ = some (.int .i64 E.rep) := fun n => ((hf1 n).cell (p := ⟨w.heap.size + 1, 0, none⟩) ql).trans q0
    have q1' : ∀ n, (f n).cell? ⟨w.heap.size + 1, 1, none⟩ = some (.slice a1 E.wins.length c1) := fun n => ((hf1 n).cell (p := ⟨w.heap.size + 1, 1, none⟩) ql).trans q1
    have q2' : ∀ n, (f n).cell? ⟨w.heap.size + 1, 2, none⟩ = some (.slice a2 E.crons.length c2) := fun n => ((hf1 n).cell (p := ⟨w.heap.size + 1, 2, none⟩) ql).trans q2
    have x0' : ∀ n, (f n).cell? ⟨w3.heap.size, 0, none⟩ = some (.int .i64 r.2) := fun n => ((hf1 n).cell (p := ⟨w3.heap.size, 0, none⟩) xl).trans x0
    have x1' : ∀ n, (f n).cell? ⟨w3.heap.size, 1, none⟩ = some (.int .i64 r.1) := fun n => ((hf1 n).cell (p := ⟨w3.heap.size, 1, none⟩) xl).trans x1
    clear hf1 hf2 p0 p1 p2 p3 q0 q1 q2 x0 x1
    refine wp_region_calm f (by kernel_rfl) (by kernel_rfl) (HF2.out _ (Below.refl _ _).drew) ?_
    repeat (go_big_quiet_step (first | (go_at_call 24; with_reducible refine Calls.mono (HEd3.out _ (cbelow_on B5.out (HF1.out _) B5.out.size)) ?_; rintro e W1 ⟨rfl, b5⟩; exact ⟨rfl, HF2.out _ (cbelow_on (HF1.out _) b5 (HF1.out _).size)⟩)))
    refine wpQuiet_nil ?_
    intro w6 hw6
    obtain ⟨n6, rfl⟩ := hw6
    have HV := chid (HF1.out n6)
    have B6 := chid (cbelow_on B5.out HV.out B5.out.size)
    clear p0' p1' p2' p3' q0' q1' q2' x0' x1'
    generalize f n6 = w6 at *
    go_wp2_with fail
    go_ret
    exact ⟨rfl, B6.out⟩
  · go_wp2_with fail
    obtain ⟨f, hf1, hf2⟩ := calm w5
    have HF1 := chid hf1
    have HF2 := chid hf2
    have p0' : ∀ n, (f n).cell? ⟨w.heap.size, 0, none⟩ = some (.int .i64 t.op) := fun n => ((hf1 n).cell (p := ⟨w.heap.size, 0, none⟩) pl).trans p0
    have p1' : ∀ n, (f n).cell? ⟨w.heap.size, 1, none⟩ = some (.int .i64 t.n) := fun n => ((hf1 n).cell (p := ⟨w.heap.size, 1, none⟩) pl).trans p1
    have p2' : ∀ n, (f n).cell? ⟨w.heap.size, 2, none⟩ = some (.int .i64 t.m) := fun n => ((hf1 n).cell (p := ⟨w.heap.size, 2, none⟩) pl).trans p2
    have p3' : ∀ n, (f n).cell? ⟨w.heap.size, 3, none⟩ = some (.slice ad t.parts.length cap) := fun n => ((hf1 n).cell (p := ⟨w.heap.size, 3, none⟩) pl).trans p3
    have q0' : ∀ n, (f n).cell? ⟨w.heap.size + 1, 0, none⟩ = some (.int .i64 E.rep) := fun n => ((hf1 n).cell (p := ⟨w.heap.size + 1, 0, none⟩) ql).trans q0
    have q1' : ∀ n, (f n).cell? ⟨w.heap.size + 1, 1, none⟩ = some (.slice a1 E.wins.length c1) := fun n => ((hf1 n).cell (p := ⟨w.heap.size + 1, 1, none⟩) ql).trans q1
    have q2' : ∀ n, (f n).cell? ⟨w.heap.size + 1, 2, none⟩ = some (.slice a2 E.crons.length c2) := fun n => ((hf1 n).cell (p := ⟨w.heap.size + 1, 2, none⟩) ql).trans q2
    have x0' : ∀ n, (f n).cell? ⟨w3.heap.size, 0, none⟩ = some (.int .i64 r.2) := fun n => ((hf1 n).cell (p := ⟨w3.heap.size, 0, none⟩) xl).trans x0
    have x1' : ∀ n, (f n).cell? ⟨w3.heap.size, 1, none⟩ = some (.int .i64 r.1) := fun n => ((hf1 n).cell (p := ⟨w3.heap.size, 1, none⟩) xl).trans x1
    clear hf1 hf2 p0 p1 p2 p3 q0 q1 q2 x0 x1
    refine wp_region_calm f (by kernel_rfl) (by kernel_rfl) (HF2.out _ (Below.refl _ _).drew) ?_
    repeat (go_big_quiet_step (first | (go_at_call 24; with_reducible refine Calls.mono (HEd3.out _ (cbelow_on B5.out (HF1.out _) B5.out.size)) ?_; rintro e W1 ⟨rfl, b5⟩; exact ⟨rfl, HF2.out _ (cbelow_on (HF1.out _) b5 (HF1.out _).size)⟩)))
    refine wpQuiet_nil ?_
    intro w6 hw6
    obtain ⟨n6, rfl⟩ := hw6
    have HV := chid (HF1.out n6)
    have B6 := chid (cbelow_on B5.out HV.out B5.out.size)
    clear p0' p1' p2' p3' q0' q1' q2' x0' x1'
    generalize f n6 = w6 at *
    go_wp2_with fail
    go_ret
    exact ⟨rfl, B6.out⟩
end Go.Proofs.YtkhdcojgcnomgaaGreatDoor
end

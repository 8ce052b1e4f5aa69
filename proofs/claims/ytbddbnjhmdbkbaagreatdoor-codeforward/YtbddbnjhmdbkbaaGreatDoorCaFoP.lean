/- Package fold: what a core becomes, plain; the shapes of formed cores. -/
import Derived.Test.YtbddbnjhmdbkbaaGreatDoorCaMgR
namespace Go.Proofs.YtbddbnjhmdbkbaaGreatDoor
open Go.RowKit

theorem formed_w {wn cn ln : Int} {t : Co} (h : csort ladF wn cn ln t ≠ 0) : ∃ k : Nat, t.op = (k : Int) ∧ 1 ≤ k ∧ k ≤ 32 ∧ fitsB k wn cn ln t = true ∧ (∀ x, x ∈ t.parts → csort ladF wn cn ln x ≠ 0) ∧ csort ladF wn cn ln t = sortF ladF k t (t.parts.map (csort ladF wn cn ln)) := by
  have e := csort_eq ladF wn cn ln t
  by_cases h1 : 1 ≤ t.op ∧ t.op ≤ 32
  · rw [if_pos h1] at e
    by_cases h2 : fitsB t.op.toNat wn cn ln t = true
    · rw [if_pos h2] at e
      by_cases h3 : (t.parts.map (csort ladF wn cn ln)).contains 0 = true
      · rw [if_pos h3] at e; exact absurd e h
      · rw [if_neg h3] at e
        refine ⟨t.op.toNat, by omega, by omega, by omega, h2, fun x hx hz => h3 ?_, e⟩
        rw [List.contains_iff_mem, List.mem_map]
        exact ⟨x, hx, hz⟩
    · rw [if_neg h2] at e; exact absurd e h
  · rw [if_neg h1] at e; exact absurd e h
theorem mapg0 {f : Co → Int} {l : List Co} (h : l.map f = []) : l = [] := by simpa using h
theorem mapg1 {f : Co → Int} {l : List Co} {a : Int} (h : l.map f = [a]) : ∃ x, l = [x] ∧ f x = a := by
  match l, h with
  | [x], h => exact ⟨x, rfl, by simpa using h⟩
theorem mapg2 {f : Co → Int} {l : List Co} {a b : Int} (h : l.map f = [a, b]) : ∃ x y, l = [x, y] ∧ f x = a ∧ f y = b := by
  match l, h with
  | [x, y], h => exact ⟨x, y, rfl, by simpa using h⟩
theorem mapg3 {f : Co → Int} {l : List Co} {a b c : Int} (h : l.map f = [a, b, c]) : ∃ x y z, l = [x, y, z] ∧ f x = a ∧ f y = b ∧ f z = c := by
  match l, h with
  | [x, y, z], h => exact ⟨x, y, z, rfl, by simpa using h⟩
/-- What a formed core is like: its parts, and their sorts. -/
def Shp (f : Co → Int) (k : Nat) (t : Co) (s : Int) : Prop :=
  ((k ≤ 6 ∨ k = 29) ∧ t.parts = []) ∨
  (k = 7 ∧ (s = 1 ∨ s = 2) ∧ ∃ x, t.parts = [x] ∧ f x = s) ∨
  ((8 ≤ k ∧ k ≤ 13) ∧ s = (if k = 9 then 2 else 1) ∧ ∃ x, t.parts = [x] ∧ f x = s) ∨
  ((14 ≤ k ∧ k ≤ 24) ∧ s = (if 18 ≤ k ∧ k ≤ 22 then 2 else 1) ∧ ∃ x y, t.parts = [x, y] ∧ f x = 1 ∧ f y = 1) ∨
  ((k = 25 ∨ k = 26) ∧ s = 2 ∧ ∃ x y, t.parts = [x, y] ∧ f x = 2 ∧ f y = 2) ∨
  (k = 27 ∧ (s = 1 ∨ s = 2) ∧ ∃ x y, t.parts = [x, y] ∧ f x = s ∧ f y = s) ∨
  (k = 28 ∧ (s = 1 ∨ s = 2) ∧ ∃ x y z, t.parts = [x, y, z] ∧ f x = 2 ∧ f y = s ∧ f z = s) ∨
  ((k = 30 ∨ k = 31) ∧ s = 3 ∧ ∃ x, t.parts = [x] ∧ f x = 1) ∨
  (k = 32 ∧ s = 3 ∧ LadOk t (t.parts.map f))
theorem shp_of {wn cn ln : Int} {t : Co} (h : csort ladF wn cn ln t ≠ 0) : ∃ k : Nat, t.op = (k : Int) ∧ 1 ≤ k ∧ k ≤ 32 ∧ fitsB k wn cn ln t = true ∧ (∀ x, x ∈ t.parts → csort ladF wn cn ln x ≠ 0) ∧ Shp (csort ladF wn cn ln) k t (csort ladF wn cn ln t) := by
  obtain ⟨k, hop, h1, h2, hb, hp, hs⟩ := formed_w h
  refine ⟨k, hop, h1, h2, hb, hp, ?_⟩
  have hzs : sortF ladF k t (t.parts.map (csort ladF wn cn ln)) ≠ 0 := by rw [← hs]; exact h
  have hr := csort_range wn cn ln
  have hks : k = 1 ∨ k = 2 ∨ k = 3 ∨ k = 4 ∨ k = 5 ∨ k = 6 ∨ k = 7 ∨ k = 8 ∨ k = 9 ∨ k = 10 ∨ k = 11 ∨ k = 12 ∨ k = 13 ∨ k = 14 ∨ k = 15 ∨ k = 16 ∨ k = 17 ∨ k = 18 ∨ k = 19 ∨ k = 20 ∨ k = 21 ∨ k = 22 ∨ k = 23 ∨ k = 24 ∨ k = 25 ∨ k = 26 ∨ k = 27 ∨ k = 28 ∨ k = 29 ∨ k = 30 ∨ k = 31 ∨ k = 32 := by omega
  clear h1 h2 hop hb
  generalize csort ladF wn cn ln t = s at h hs
  subst hs
  rcases hks with rfl | rfl | rfl | rfl | rfl | rfl | rfl | rfl | rfl | rfl | rfl | rfl | rfl | rfl | rfl | rfl | rfl | rfl | rfl | rfl | rfl | rfl | rfl | rfl | rfl | rfl | rfl | rfl | rfl | rfl | rfl | rfl
  · obtain ⟨e1, e2⟩ := mk_of (k := 1) (r := 1) (ts := []) rfl hzs
    exact .inl ⟨by omega, mapg0 e1⟩
  · obtain ⟨e1, e2⟩ := mk_of (k := 2) (r := 2) (ts := []) rfl hzs
    exact .inl ⟨by omega, mapg0 e1⟩
  · obtain ⟨e1, e2⟩ := mk_of (k := 3) (r := 1) (ts := []) rfl hzs
    exact .inl ⟨by omega, mapg0 e1⟩
  · obtain ⟨e1, e2⟩ := mk_of (k := 4) (r := 1) (ts := []) rfl hzs
    exact .inl ⟨by omega, mapg0 e1⟩
  · obtain ⟨e1, e2⟩ := mk_of (k := 5) (r := 2) (ts := []) rfl hzs
    exact .inl ⟨by omega, mapg0 e1⟩
  · have e1 : t.parts.map (csort ladF wn cn ln) = [] := by
      apply Classical.byContradiction
      intro h
      exact hzs (if_neg h)
    exact .inl ⟨by omega, mapg0 e1⟩
  · obtain ⟨g1, g2, g3, g4⟩ := alike_of (show alikeF 1 (t.parts.map (csort ladF wn cn ln)) ≠ 0 from hzs)
    obtain ⟨x, q⟩ := len1 (l := t.parts) (by simpa using g1)
    rw [q] at g2 g4
    have g5 : sortF ladF 7 t (t.parts.map (csort ladF wn cn ln)) = csort ladF wn cn ln x := by rw [q]; exact g4
    have g6 : csort ladF wn cn ln x ≠ 3 := g2
    have := hr x
    have := hp x (by rw [q]; simp)
    exact .inr (.inl ⟨rfl, by rw [g5]; omega, x, q, g5.symm⟩)
  · obtain ⟨e1, e2⟩ := mk_of (k := 8) (r := 1) (ts := [1]) rfl hzs
    obtain ⟨x, q, q0⟩ := mapg1 e1
    exact .inr (.inr (.inl ⟨by omega, by rw [e2]; rfl, x, q, by rw [e2, q0]⟩))
  · obtain ⟨e1, e2⟩ := mk_of (k := 9) (r := 2) (ts := [2]) rfl hzs
    obtain ⟨x, q, q0⟩ := mapg1 e1
    exact .inr (.inr (.inl ⟨by omega, by rw [e2]; rfl, x, q, by rw [e2, q0]⟩))
  · obtain ⟨e1, e2⟩ := mk_of (k := 10) (r := 1) (ts := [1]) rfl hzs
    obtain ⟨x, q, q0⟩ := mapg1 e1
    exact .inr (.inr (.inl ⟨by omega, by rw [e2]; rfl, x, q, by rw [e2, q0]⟩))
  · obtain ⟨e1, e2⟩ := mk_of (k := 11) (r := 1) (ts := [1]) rfl hzs
    obtain ⟨x, q, q0⟩ := mapg1 e1
    exact .inr (.inr (.inl ⟨by omega, by rw [e2]; rfl, x, q, by rw [e2, q0]⟩))
  · obtain ⟨e1, e2⟩ := mk_of (k := 12) (r := 1) (ts := [1]) rfl hzs
    obtain ⟨x, q, q0⟩ := mapg1 e1
    exact .inr (.inr (.inl ⟨by omega, by rw [e2]; rfl, x, q, by rw [e2, q0]⟩))
  · obtain ⟨e1, e2⟩ := mk_of (k := 13) (r := 1) (ts := [1]) rfl hzs
    obtain ⟨x, q, q0⟩ := mapg1 e1
    exact .inr (.inr (.inl ⟨by omega, by rw [e2]; rfl, x, q, by rw [e2, q0]⟩))
  · obtain ⟨e1, e2⟩ := mk_of (k := 14) (r := 1) (ts := [1, 1]) rfl hzs
    obtain ⟨x, y, q, q0, q1⟩ := mapg2 e1
    exact .inr (.inr (.inr (.inl ⟨by omega, by rw [e2]; rfl, x, y, q, q0, q1⟩)))
  · obtain ⟨e1, e2⟩ := mk_of (k := 15) (r := 1) (ts := [1, 1]) rfl hzs
    obtain ⟨x, y, q, q0, q1⟩ := mapg2 e1
    exact .inr (.inr (.inr (.inl ⟨by omega, by rw [e2]; rfl, x, y, q, q0, q1⟩)))
  · obtain ⟨e1, e2⟩ := mk_of (k := 16) (r := 1) (ts := [1, 1]) rfl hzs
    obtain ⟨x, y, q, q0, q1⟩ := mapg2 e1
    exact .inr (.inr (.inr (.inl ⟨by omega, by rw [e2]; rfl, x, y, q, q0, q1⟩)))
  · obtain ⟨e1, e2⟩ := mk_of (k := 17) (r := 1) (ts := [1, 1]) rfl hzs
    obtain ⟨x, y, q, q0, q1⟩ := mapg2 e1
    exact .inr (.inr (.inr (.inl ⟨by omega, by rw [e2]; rfl, x, y, q, q0, q1⟩)))
  · obtain ⟨e1, e2⟩ := mk_of (k := 18) (r := 2) (ts := [1, 1]) rfl hzs
    obtain ⟨x, y, q, q0, q1⟩ := mapg2 e1
    exact .inr (.inr (.inr (.inl ⟨by omega, by rw [e2]; rfl, x, y, q, q0, q1⟩)))
  · obtain ⟨e1, e2⟩ := mk_of (k := 19) (r := 2) (ts := [1, 1]) rfl hzs
    obtain ⟨x, y, q, q0, q1⟩ := mapg2 e1
    exact .inr (.inr (.inr (.inl ⟨by omega, by rw [e2]; rfl, x, y, q, q0, q1⟩)))
  · obtain ⟨e1, e2⟩ := mk_of (k := 20) (r := 2) (ts := [1, 1]) rfl hzs
    obtain ⟨x, y, q, q0, q1⟩ := mapg2 e1
    exact .inr (.inr (.inr (.inl ⟨by omega, by rw [e2]; rfl, x, y, q, q0, q1⟩)))
  · obtain ⟨e1, e2⟩ := mk_of (k := 21) (r := 2) (ts := [1, 1]) rfl hzs
    obtain ⟨x, y, q, q0, q1⟩ := mapg2 e1
    exact .inr (.inr (.inr (.inl ⟨by omega, by rw [e2]; rfl, x, y, q, q0, q1⟩)))
  · obtain ⟨e1, e2⟩ := mk_of (k := 22) (r := 2) (ts := [1, 1]) rfl hzs
    obtain ⟨x, y, q, q0, q1⟩ := mapg2 e1
    exact .inr (.inr (.inr (.inl ⟨by omega, by rw [e2]; rfl, x, y, q, q0, q1⟩)))
  · obtain ⟨e1, e2⟩ := mk_of (k := 23) (r := 1) (ts := [1, 1]) rfl hzs
    obtain ⟨x, y, q, q0, q1⟩ := mapg2 e1
    exact .inr (.inr (.inr (.inl ⟨by omega, by rw [e2]; rfl, x, y, q, q0, q1⟩)))
  · obtain ⟨e1, e2⟩ := mk_of (k := 24) (r := 1) (ts := [1, 1]) rfl hzs
    obtain ⟨x, y, q, q0, q1⟩ := mapg2 e1
    exact .inr (.inr (.inr (.inl ⟨by omega, by rw [e2]; rfl, x, y, q, q0, q1⟩)))
  · obtain ⟨e1, e2⟩ := mk_of (k := 25) (r := 2) (ts := [2, 2]) rfl hzs
    obtain ⟨x, y, q, q0, q1⟩ := mapg2 e1
    exact .inr (.inr (.inr (.inr (.inl ⟨by omega, e2, x, y, q, q0, q1⟩))))
  · obtain ⟨e1, e2⟩ := mk_of (k := 26) (r := 2) (ts := [2, 2]) rfl hzs
    obtain ⟨x, y, q, q0, q1⟩ := mapg2 e1
    exact .inr (.inr (.inr (.inr (.inl ⟨by omega, e2, x, y, q, q0, q1⟩))))
  · obtain ⟨g1, g2, g3, g4⟩ := alike_of (show alikeF 2 (t.parts.map (csort ladF wn cn ln)) ≠ 0 from hzs)
    obtain ⟨x, y, q⟩ := len2 (l := t.parts) (by simpa using g1)
    rw [q] at g2 g3 g4
    have g5 : sortF ladF 27 t (t.parts.map (csort ladF wn cn ln)) = csort ladF wn cn ln x := by rw [q]; exact g4
    have g6 : csort ladF wn cn ln x ≠ 3 := g2
    have g7 : csort ladF wn cn ln y = csort ladF wn cn ln x := g3 _ (by simp)
    have := hr x
    have := hp x (by rw [q]; simp)
    exact .inr (.inr (.inr (.inr (.inr (.inl ⟨rfl, by rw [g5]; omega, x, y, q, g5.symm, by rw [g5, g7]⟩)))))
  · have hz3 : choiceF (t.parts.map (csort ladF wn cn ln)) ≠ 0 := hzs
    obtain ⟨a, e, ea⟩ := choice_of hz3
    obtain ⟨x, y, z, q, q0, q1, q2⟩ := mapg3 e
    have ea' : sortF ladF 28 t (t.parts.map (csort ladF wn cn ln)) = a := ea
    have hn3 : a ≠ 3 := fun e3 => by
      rw [e, e3] at hz3
      exact hz3 (by decide)
    have := hr y
    have := hp y (by rw [q]; simp)
    exact .inr (.inr (.inr (.inr (.inr (.inr (.inl ⟨rfl, by rw [ea']; omega, x, y, z, q, q0, by rw [ea', q1], by rw [ea', q2]⟩))))))
  · obtain ⟨e1, e2⟩ := mk_of (k := 29) (r := 3) (ts := []) rfl hzs
    exact .inl ⟨by omega, mapg0 e1⟩
  · obtain ⟨e1, e2⟩ := mk_of (k := 30) (r := 3) (ts := [1]) rfl hzs
    obtain ⟨x, q, q0⟩ := mapg1 e1
    exact .inr (.inr (.inr (.inr (.inr (.inr (.inr (.inl ⟨by omega, e2, x, q, q0⟩)))))))
  · obtain ⟨e1, e2⟩ := mk_of (k := 31) (r := 3) (ts := [1]) rfl hzs
    obtain ⟨x, q, q0⟩ := mapg1 e1
    exact .inr (.inr (.inr (.inr (.inr (.inr (.inr (.inl ⟨by omega, e2, x, q, q0⟩)))))))
  · have hz2 : ladF t (t.parts.map (csort ladF wn cn ln)) ≠ 0 := hzs
    have hl : LadOk t (t.parts.map (csort ladF wn cn ln)) := (ladB_iff _ _).1 (by
      unfold ladF at hz2
      split at hz2
      · assumption
      · exact absurd rfl hz2)
    exact .inr (.inr (.inr (.inr (.inr (.inr (.inr (.inr ⟨rfl, ladF_yes hl, hl⟩)))))))
/-- A constant. -/
def cst (c : Co) : Bool := decide (c.op = 1) || decide (c.op = 2)
theorem cst_iff {c : Co} : cst c = true ↔ c.op = 1 ∨ c.op = 2 := by unfold cst; simp
theorem cst_of {wn cn ln : Int} {x : Co} (hc : cst x = true) (h : csort ladF wn cn ln x ≠ 0) : x.parts = [] ∧ x.m = 0 ∧ ((x.op = 1 ∧ csort ladF wn cn ln x = 1) ∨ (x.op = 2 ∧ (x.n = 0 ∨ x.n = 1) ∧ csort ladF wn cn ln x = 2)) := by
  obtain ⟨k, hop, h1, h2, hb, hp, hs⟩ := formed_w h
  have hzs : sortF ladF k x (x.parts.map (csort ladF wn cn ln)) ≠ 0 := by rw [← hs]; exact h
  rcases cst_iff.1 hc with e | e
  · obtain rfl : k = 1 := by omega
    obtain ⟨e1, e2⟩ := mk_of (k := 1) (r := 1) (ts := []) rfl hzs
    have hm : decide (x.m = 0) = true := hb
    exact ⟨mapg0 e1, of_decide_eq_true hm, .inl ⟨e, by rw [hs]; exact e2⟩⟩
  · obtain rfl : k = 2 := by omega
    obtain ⟨e1, e2⟩ := mk_of (k := 2) (r := 2) (ts := []) rfl hzs
    have hm : (belowB x.n 2 && decide (x.m = 0)) = true := hb
    simp [belowB] at hm
    exact ⟨mapg0 e1, hm.2, .inr ⟨e, by omega, by rw [hs]; exact e2⟩⟩
theorem fail_of {wn cn ln : Int} {x : Co} (hc : x.op = 6) (h : csort ladF wn cn ln x ≠ 0) : x.parts = [] ∧ (1 ≤ x.n ∧ x.n ≤ 3) ∧ (x.m = 1 ∨ x.m = 2) ∧ csort ladF wn cn ln x = x.m := by
  obtain ⟨k, hop, h1, h2, hb, hp, hs⟩ := formed_w h
  obtain rfl : k = 6 := by omega
  have hzs : (if x.parts.map (csort ladF wn cn ln) = [] then x.m else 0) ≠ 0 := fun e => h (hs.trans e)
  have e1 : x.parts.map (csort ladF wn cn ln) = [] := by
    apply Classical.byContradiction
    intro h
    exact hzs (if_neg h)
  have hm : (decide (1 ≤ x.n) && (decide (x.n ≤ 3) && (decide (x.m = 1) || decide (x.m = 2)))) = true := hb
  simp at hm
  exact ⟨mapg0 e1, ⟨hm.1, hm.2.1⟩, hm.2.2, hs.trans (if_pos e1)⟩
theorem tel_cst (E : EnvP) {x : Co} (h : cst x = true) : telV E x = (x.n, 0) := by
  rw [telV_eq]
  have : x.op.toNat = 1 ∨ x.op.toNat = 2 := by have := cst_iff.1 h; omega
  exact if_pos this
theorem tel_fail (E : EnvP) {x : Co} (h : x.op = 6) : telV E x = (0, x.n) := by
  rw [telV_eq, h]
  rfl
/-- The sort of a core, in whatever plan it stands. -/
abbrev sM (c : Co) : Int := csort ladF 256 256 256 c
def E00 : EnvP := ⟨0, [], []⟩
def failF (c : Co) (r : Int) : Co := ⟨6, r, sM c, []⟩
/-- An operation whose first part is a constant. -/
def workedF (c : Co) : Co :=
  if (c.parts.getD (c.parts.length - 1) co0).op = 6 then failF c (c.parts.getD (c.parts.length - 1) co0).n
  else if cst (c.parts.getD (c.parts.length - 1) co0) = false then c
  else if (telV E00 c).2 ≠ 0 then failF c (telV E00 c).2
  else if sM c = 2 then ⟨2, (telV E00 c).1, 0, []⟩ else ⟨1, (telV E00 c).1, 0, []⟩
def knownF (c a : Co) : Co :=
  if c.op = 28 then (if a.n = 1 then c.parts.getD 1 co0 else c.parts.getD 2 co0)
  else if c.op = 25 then (if a.n = 0 then a else c.parts.getD 1 co0)
  else if c.op = 26 then (if a.n = 1 then a else c.parts.getD 1 co0)
  else if c.op = 27 ∨ c.op = 7 then a
  else if c.op = 32 then c.parts.getD (ladI c.parts a.n c.parts.length c.parts.length 1) co0
  else if c.op = 30 ∨ c.op = 31 then c
  else workedF c
def failedF (c a : Co) : Co :=
  if c.op = 27 then c.parts.getD 1 co0
  else if c.op = 30 ∨ c.op = 31 ∨ c.op = 32 then c
  else failF c a.n
/-- What a core becomes whose parts are folded. -/
def becF (c : Co) : Co :=
  match c.parts with
  | [] => c
  | a :: _ => if cst a = true then knownF c a else if a.op = 6 then failedF c a else c
/-- The folded form. -/
def foldF : Co → Co
  | ⟨k, n, m, ps⟩ => becF ⟨k, n, m, ps.map foldF⟩
theorem foldF_eq (c : Co) : foldF c = becF ⟨c.op, c.n, c.m, c.parts.map foldF⟩ := by
  cases c
  rw [foldF]
theorem becF_nil {c : Co} (h : c.parts = []) : becF c = c := by unfold becF; rw [h]
theorem becF_cons {c a : Co} {r : List Co} (h : c.parts = a :: r) : becF c = if cst a = true then knownF c a else if a.op = 6 then failedF c a else c := by unfold becF; rw [h]
/-- A leaf. -/
def leafy (c : Co) : Prop := c.parts = []
theorem getD_mem_or (ps : List Co) (i : Nat) : ps.getD i co0 ∈ ps ∨ leafy (ps.getD i co0) := by
  by_cases h : i < ps.length
  · left
    rw [show ps.getD i co0 = ps[i] by simp [List.getD, List.getElem?_eq_getElem h]]
    exact List.getElem_mem h
  · right
    rw [show ps.getD i co0 = co0 by simp [List.getD, List.getElem?_eq_none (Nat.not_lt.1 h)]]
    rfl
theorem bec_three (c : Co) : becF c = c ∨ becF c ∈ c.parts ∨ leafy (becF c) := by
  cases hp : c.parts with
  | nil => exact .inl (becF_nil hp)
  | cons a r =>
    have ha : a ∈ a :: r := by simp
    have hg : ∀ i, c.parts.getD i co0 ∈ a :: r ∨ leafy (c.parts.getD i co0) := fun i => by rw [← hp]; exact getD_mem_or _ _
    rw [becF_cons hp]
    unfold knownF failedF workedF failF
    repeat' split
    all_goals first | exact .inl rfl | exact .inr (.inl ha) | exact .inr (hg _) | exact .inr (.inr rfl)
theorem ladI_at (ps : List Co) (v : Int) (L : Nat) (hL : 2 ≤ L ∧ L % 2 = 0) : ∀ f i, i % 2 = 1 → i + 1 ≤ L → L ≤ i + 2 * f → ladI ps v L f i = L - 1 ∨ ∃ q, q % 2 = 1 ∧ q + 1 < L ∧ ladI ps v L f i = q + 1
  | 0, i, h1, h2, h3 => by omega
  | f + 1, i, h1, h2, h3 => by
    by_cases h : i + 1 < L
    · by_cases hv : v < (ps.getD i co0).n
      · exact .inr ⟨i, h1, h, ladI_hit h hv (by omega)⟩
      · rw [ladI_on h hv]
        exact ladI_at ps v L hL f (i + 2) (by omega) (by omega) (by omega)
    · exact .inl (ladI_end h (by omega))
theorem coD_at {ps : List Co} {i : Nat} (h : i < ps.length) : ps.getD i co0 = ps[i] := by simp [List.getD, List.getElem?_eq_getElem h]
theorem mapD_at {α : Type} {f : Co → α} {d : α} {ps : List Co} {i : Nat} (h : i < ps.length) : (ps.map f).getD i d = f ps[i] := by simp [List.getD, List.getElem?_map, List.getElem?_eq_getElem h]
/-- The action that a ladder takes lies among its parts, and is one. -/
theorem lad_pick {f : Co → Int} {t : Co} (h : LadOk t (t.parts.map f)) (v : Int) : ∃ j, ladI t.parts v t.parts.length t.parts.length 1 = j ∧ j < t.parts.length ∧ f (t.parts.getD j co0) = 3 := by
  obtain ⟨h1, h2, h3, h4, h5⟩ := h
  rw [List.length_map] at h1 h2 h4 h5
  rcases ladI_at t.parts v t.parts.length ⟨h1, h2⟩ t.parts.length 1 rfl (by omega) (by omega) with e | ⟨q, q1, q2, e⟩
  · refine ⟨_, e, by omega, ?_⟩
    rw [coD_at (by omega), ← mapD_at (f := f) (d := 0) (by omega)]
    exact h4
  · refine ⟨_, e, q2, ?_⟩
    rw [coD_at q2, ← mapD_at (f := f) (d := 0) q2]
    exact (h5 q q1 q2).2.1
theorem csort_swap {wn cn ln wn' cn' ln' : Int} {t : Co} (hf : fitsB t.op.toNat wn' cn' ln' t = fitsB t.op.toNat wn cn ln t) (hp : ∀ x, x ∈ t.parts → csort ladF wn' cn' ln' x = csort ladF wn cn ln x) : csort ladF wn' cn' ln' t = csort ladF wn cn ln t := by
  rw [csort_eq ladF wn' cn' ln' t, csort_eq ladF wn cn ln t, hf, List.map_congr_left hp]
theorem fits_more {k : Nat} {wn cn ln wn' cn' ln' : Int} {t : Co} (hw : wn ≤ wn') (hc : cn ≤ cn') (hl : ln ≤ ln') (h : fitsB k wn cn ln t = true) : fitsB k wn' cn' ln' t = true := by
  unfold fitsB belowB at h ⊢
  repeat' split
  all_goals simp_all
  all_goals omega
theorem csort_more {wn cn ln wn' cn' ln' : Int} (hw : wn ≤ wn') (hc : cn ≤ cn') (hl : ln ≤ ln') (t : Co) : csort ladF wn cn ln t ≠ 0 → csort ladF wn' cn' ln' t = csort ladF wn cn ln t := by
  induction t using Co.ind with
  | h t ih =>
    intro h
    obtain ⟨k, hop, h1, h2, hb, hp, hs⟩ := formed_w h
    refine csort_swap ?_ (fun x hx => ih x hx (hp x hx))
    rw [hop, Int.toNat_natCast, hb]
    exact fits_more hw hc hl hb
theorem csort_leaf1 (wn cn ln n : Int) : csort ladF wn cn ln ⟨1, n, 0, []⟩ = 1 := by rw [csort_eq]; rfl
theorem csort_leaf2 (wn cn ln n : Int) (h : n = 0 ∨ n = 1) : csort ladF wn cn ln ⟨2, n, 0, []⟩ = 2 := by rcases h with rfl | rfl <;> (rw [csort_eq]; rfl)
theorem csort_leaf6 (wn cn ln r m : Int) (h : 1 ≤ r ∧ r ≤ 3) (hm : m = 1 ∨ m = 2) : csort ladF wn cn ln ⟨6, r, m, []⟩ = m := by
  obtain ⟨h1, h2⟩ := h
  have : r = 1 ∨ r = 2 ∨ r = 3 := by omega
  rcases this with rfl | rfl | rfl <;> rcases hm with rfl | rfl <;> (rw [csort_eq]; rfl)
/-- Operations of one part, and of two. -/
theorem tel_one (k : Nat) (h : 8 ≤ k ∧ k ≤ 13) (n m : Int) : ∃ f : Int → Int, (k ≠ 13 → f = uF k) ∧ ∀ E x, telV E ⟨(k : Int), n, m, [x]⟩ = ofOneR f (telV E x) := by
  have hk : k = 8 ∨ k = 9 ∨ k = 10 ∨ k = 11 ∨ k = 12 ∨ k = 13 := by omega
  rcases hk with rfl | rfl | rfl | rfl | rfl | rfl
  · exact ⟨uF 8, fun _ => rfl, fun E x => by rw [telV_eq]; rfl⟩
  · exact ⟨uF 9, fun _ => rfl, fun E x => by rw [telV_eq]; rfl⟩
  · exact ⟨uF 10, fun _ => rfl, fun E x => by rw [telV_eq]; rfl⟩
  · exact ⟨uF 11, fun _ => rfl, fun E x => by rw [telV_eq]; rfl⟩
  · exact ⟨uF 12, fun _ => rfl, fun E x => by rw [telV_eq]; rfl⟩
  · exact ⟨fun a => held (a * n / m), fun h => absurd rfl h, fun E x => by rw [telV_eq]; rfl⟩
theorem tel_two (k : Nat) (h : 14 ≤ k ∧ k ≤ 24) (n m : Int) : ∃ g : Int → Int → Rs, (g = if k = 17 then divR else fun a b => okR (bF k a b)) ∧ ∀ E x y, telV E ⟨(k : Int), n, m, [x, y]⟩ = ofTwoR g (telV E x) (telV E y) := by
  have hk : k = 14 ∨ k = 15 ∨ k = 16 ∨ k = 17 ∨ k = 18 ∨ k = 19 ∨ k = 20 ∨ k = 21 ∨ k = 22 ∨ k = 23 ∨ k = 24 := by omega
  refine ⟨_, rfl, ?_⟩
  rcases hk with rfl | rfl | rfl | rfl | rfl | rfl | rfl | rfl | rfl | rfl | rfl <;> exact fun E x y => by rw [telV_eq]; rfl
end Go.Proofs.YtbddbnjhmdbkbaaGreatDoor

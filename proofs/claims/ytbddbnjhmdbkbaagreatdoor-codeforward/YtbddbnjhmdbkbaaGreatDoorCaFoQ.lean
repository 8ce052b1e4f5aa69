/- Package fold: what a formed core becomes has its sort, comes to the same, is no larger, and stays. -/
import Derived.Test.YtbddbnjhmdbkbaaGreatDoorCaFoP
namespace Go.Proofs.YtbddbnjhmdbkbaaGreatDoor
open Go.RowKit

/-- How a formed core of the sort s fares. -/
def Bec (f : Co → Int) (c : Co) (s : Int) : Prop :=
  becF c = c ∨
  (∃ x, x ∈ c.parts ∧ becF c = x ∧ f x = s ∧ ∀ E, telV E x = telV E c) ∨
  (∃ r, becF c = ⟨6, r, sM c, []⟩ ∧ (1 ≤ r ∧ r ≤ 3) ∧ (s = 1 ∨ s = 2) ∧ ∀ E, telV E c = (0, r)) ∨
  (∃ n, becF c = ⟨1, n, 0, []⟩ ∧ s = 1 ∧ ∀ E, telV E c = (n, 0)) ∨
  (∃ n, becF c = ⟨2, n, 0, []⟩ ∧ s = 2 ∧ (n = 0 ∨ n = 1) ∧ ∀ E, telV E c = (n, 0))
theorem known_work {c a : Co} {k : Nat} (hop : c.op = (k : Int)) (h : 8 ≤ k ∧ k ≤ 24) : knownF c a = workedF c := by
  unfold knownF
  rw [if_neg (by omega), if_neg (by omega), if_neg (by omega), if_neg (by omega), if_neg (by omega), if_neg (by omega)]
theorem failed_fail {c a : Co} {k : Nat} (hop : c.op = (k : Int)) (h : k ≤ 26 ∨ k = 28) : failedF c a = failF c a.n := by
  unfold failedF
  rw [if_neg (by omega), if_neg (by omega)]
theorem cst_ne6 {x : Co} (h : cst x = true) : ¬ x.op = 6 := by have := cst_iff.1 h; omega
theorem worked_one {c x : Co} (hp : c.parts = [x]) (hx : cst x = true) {v : Int} (ht : telV E00 c = (v, 0)) : workedF c = if sM c = 2 then ⟨2, v, 0, []⟩ else ⟨1, v, 0, []⟩ := by
  unfold workedF
  rw [hp, ht]
  show (if x.op = 6 then _ else if cst x = false then _ else _) = _
  rw [if_neg (cst_ne6 hx), if_neg (by rw [hx]; decide), if_neg (by simp)]
theorem worked_two {c x y : Co} (hp : c.parts = [x, y]) : workedF c = if y.op = 6 then failF c y.n else if cst y = false then c else if (telV E00 c).2 ≠ 0 then failF c (telV E00 c).2 else if sM c = 2 then ⟨2, (telV E00 c).1, 0, []⟩ else ⟨1, (telV E00 c).1, 0, []⟩ := by
  unfold workedF
  rw [hp]
  rfl
theorem bec_form {wn cn ln : Int} {c : Co} (hM : sM c = csort ladF wn cn ln c) (h : csort ladF wn cn ln c ≠ 0) : Bec (csort ladF wn cn ln) c (csort ladF wn cn ln c) := by
  obtain ⟨k, hop, h1, h2, hb, hp, hs⟩ := shp_of h
  generalize hS : csort ladF wn cn ln c = s at *
  obtain ⟨op, n, m, ps⟩ := c
  dsimp only at hop hp
  subst hop
  rcases hs with ⟨-, e⟩ | ⟨rfl, h12, x, e, ex⟩ | ⟨hk, hs, x, e, ex⟩ | ⟨hk, hs, x, y, e, ex, ey⟩ | ⟨hk, rfl, x, y, e, ex, ey⟩ | ⟨rfl, h12, x, y, e, ex, ey⟩ | ⟨rfl, h12, x, y, z, e, ex, ey, ez⟩ | ⟨hk, rfl, x, e, ex⟩ | ⟨rfl, rfl, hl⟩
  · exact .inl (becF_nil e)
  · dsimp only at e
    subst e
    have ht : ∀ E, telV E ⟨((7 : Nat) : Int), n, m, [x]⟩ = telV E x := fun E => by rw [telV_eq]; rfl
    by_cases hc : cst x = true
    · exact .inr (.inl ⟨x, by simp, (becF_cons rfl).trans ((if_pos hc).trans rfl), ex, fun E => (ht E).symm⟩)
    · by_cases h6 : x.op = 6
      · obtain ⟨-, f1, -, -⟩ := fail_of h6 (by rw [ex]; omega)
        exact .inr (.inr (.inl ⟨x.n, (becF_cons rfl).trans ((if_neg hc).trans ((if_pos h6).trans rfl)), f1, h12, fun E => (ht E).trans (tel_fail E h6)⟩))
      · exact .inl ((becF_cons rfl).trans ((if_neg hc).trans (if_neg h6)))
  · dsimp only at e
    subst e
    obtain ⟨f, hf, ht⟩ := tel_one k hk n m
    by_cases hc : cst x = true
    · have ht2 : ∀ E, telV E ⟨(k : Int), n, m, [x]⟩ = (f x.n, 0) := fun E => by rw [ht, tel_cst E hc]; rfl
      have hb2 : becF ⟨(k : Int), n, m, [x]⟩ = if sM ⟨(k : Int), n, m, [x]⟩ = 2 then ⟨2, f x.n, 0, []⟩ else ⟨1, f x.n, 0, []⟩ := (becF_cons rfl).trans ((if_pos hc).trans ((known_work rfl (by omega)).trans (worked_one rfl hc (ht2 E00))))
      by_cases h9 : k = 9
      · rw [if_pos h9] at hs
        obtain ⟨-, -, q⟩ := cst_of hc (by rw [ex, hs]; decide)
        rcases q with ⟨-, q⟩ | ⟨-, q, -⟩
        · rw [ex, hs] at q; cases q
        · refine .inr (.inr (.inr (.inr ⟨f x.n, hb2.trans (if_pos (by rw [hM, hs])), hs, ?_, ht2⟩)))
          rw [hf (by omega), h9]
          rcases q with q | q <;> rw [q]
          · exact .inr rfl
          · exact .inl rfl
      · rw [if_neg h9] at hs
        exact .inr (.inr (.inr (.inl ⟨f x.n, hb2.trans (if_neg (by rw [hM, hs]; decide)), hs, ht2⟩)))
    · by_cases h6 : x.op = 6
      · obtain ⟨-, f1, -, -⟩ := fail_of h6 (by rw [ex]; split at hs <;> omega)
        exact .inr (.inr (.inl ⟨x.n, (becF_cons rfl).trans ((if_neg hc).trans ((if_pos h6).trans (failed_fail rfl (by omega)))), f1, by split at hs <;> omega, fun E => by rw [ht, tel_fail E h6]; exact if_neg (by show ¬ x.n = 0; omega)⟩))
      · exact .inl ((becF_cons rfl).trans ((if_neg hc).trans (if_neg h6)))
  · dsimp only at e
    subst e
    have h12 : s = 1 ∨ s = 2 := by split at hs <;> omega
    obtain ⟨g, hg, ht⟩ := tel_two k hk n m
    by_cases hc : cst x = true
    · have hb2 : becF ⟨(k : Int), n, m, [x, y]⟩ = workedF ⟨(k : Int), n, m, [x, y]⟩ := (becF_cons rfl).trans ((if_pos hc).trans (known_work rfl (by omega)))
      rw [worked_two (x := x) (y := y) rfl] at hb2
      by_cases h6 : y.op = 6
      · rw [if_pos h6] at hb2
        obtain ⟨-, f1, -, -⟩ := fail_of h6 (by rw [ey]; decide)
        exact .inr (.inr (.inl ⟨y.n, hb2, f1, h12, fun E => by
          rw [ht, tel_cst E hc, tel_fail E h6]
          exact (if_pos rfl).trans (if_neg (by show ¬ y.n = 0; omega))⟩))
      · rw [if_neg h6] at hb2
        by_cases hd : cst y = true
        · rw [if_neg (by rw [hd]; decide)] at hb2
          have ht2 : ∀ E, telV E ⟨(k : Int), n, m, [x, y]⟩ = g x.n y.n := fun E => by rw [ht, tel_cst E hc, tel_cst E hd]; rfl
          rw [ht2] at hb2
          by_cases h17 : k = 17
          · rw [if_pos h17] at hg
            have hs1 : s = 1 := by rw [if_neg (by omega)] at hs; exact hs
            by_cases h0 : y.n = 0
            · have e2 : g x.n y.n = (0, 2) := by rw [hg]; exact if_pos h0
              rw [e2] at hb2 ht2
              exact .inr (.inr (.inl ⟨2, hb2.trans (if_pos (by decide)), by decide, h12, ht2⟩))
            · have e2 : g x.n y.n = (held (fl (x.n * 1000000) y.n), 0) := by rw [hg]; exact if_neg h0
              rw [e2] at hb2 ht2
              exact .inr (.inr (.inr (.inl ⟨_, hb2.trans ((if_neg (by simp)).trans (if_neg (by rw [hM, hs1]; decide))), hs1, ht2⟩)))
          · rw [if_neg h17] at hg
            have e2 : g x.n y.n = (bF k x.n y.n, 0) := by rw [hg]
            rw [e2] at hb2 ht2
            by_cases hb : 18 ≤ k ∧ k ≤ 22
            · rw [if_pos hb] at hs
              exact .inr (.inr (.inr (.inr ⟨_, hb2.trans ((if_neg (by simp)).trans (if_pos (by rw [hM, hs]))), hs, bF_01 k _ _ hb.1 hb.2, ht2⟩)))
            · rw [if_neg hb] at hs
              exact .inr (.inr (.inr (.inl ⟨_, hb2.trans ((if_neg (by simp)).trans (if_neg (by rw [hM, hs]; decide))), hs, ht2⟩)))
        · exact .inl (hb2.trans (if_pos (by simpa using hd)))
    · by_cases h6 : x.op = 6
      · obtain ⟨-, f1, -, -⟩ := fail_of h6 (by rw [ex]; decide)
        exact .inr (.inr (.inl ⟨x.n, (becF_cons rfl).trans ((if_neg hc).trans ((if_pos h6).trans (failed_fail rfl (by omega)))), f1, h12, fun E => by rw [ht, tel_fail E h6]; exact if_neg (by show ¬ x.n = 0; omega)⟩))
      · exact .inl ((becF_cons rfl).trans ((if_neg hc).trans (if_neg h6)))
  · dsimp only at e
    subst e
    by_cases hc : cst x = true
    · obtain ⟨-, -, q⟩ := cst_of hc (by rw [ex]; decide)
      have q01 : x.n = 0 ∨ x.n = 1 := by
        rcases q with ⟨-, q⟩ | ⟨-, q, -⟩
        · rw [ex] at q; cases q
        · exact q
      rcases hk with rfl | rfl
      · have ht : ∀ E, telV E ⟨((25 : Nat) : Int), n, m, [x, y]⟩ = if x.n ≠ 0 then telV E y else (0, 0) := fun E => by
          rw [telV_eq]
          show (if (telV E x).2 = 0 ∧ (telV E x).1 ≠ 0 then telV E y else noR (telV E x).2) = _
          rw [tel_cst E hc]
          simp
        have hb2 : becF ⟨((25 : Nat) : Int), n, m, [x, y]⟩ = if x.n = 0 then x else y := (becF_cons rfl).trans ((if_pos hc).trans rfl)
        rcases q01 with q | q
        · exact .inr (.inl ⟨x, by simp, hb2.trans (if_pos q), ex, fun E => by rw [ht, tel_cst E hc, q]; rfl⟩)
        · exact .inr (.inl ⟨y, by simp, hb2.trans (if_neg (by omega)), ey, fun E => by rw [ht, if_pos (by omega)]⟩)
      · have ht : ∀ E, telV E ⟨((26 : Nat) : Int), n, m, [x, y]⟩ = if x.n ≠ 1 then telV E y else (x.n, 0) := fun E => by
          rw [telV_eq]
          show (if (telV E x).2 = 0 ∧ (telV E x).1 ≠ 1 then telV E y else telV E x) = _
          rw [tel_cst E hc]
          simp
        have hb2 : becF ⟨((26 : Nat) : Int), n, m, [x, y]⟩ = if x.n = 1 then x else y := (becF_cons rfl).trans ((if_pos hc).trans rfl)
        rcases q01 with q | q
        · exact .inr (.inl ⟨y, by simp, hb2.trans (if_neg (by omega)), ey, fun E => by rw [ht, if_pos (by omega)]⟩)
        · exact .inr (.inl ⟨x, by simp, hb2.trans (if_pos q), ex, fun E => by rw [ht, tel_cst E hc, if_neg (by omega)]⟩)
    · by_cases h6 : x.op = 6
      · obtain ⟨-, f1, -, -⟩ := fail_of h6 (by rw [ex]; decide)
        refine .inr (.inr (.inl ⟨x.n, (becF_cons rfl).trans ((if_neg hc).trans ((if_pos h6).trans (failed_fail rfl (by omega)))), f1, .inr rfl, fun E => ?_⟩))
        rcases hk with rfl | rfl
        · rw [telV_eq]
          show (if (telV E x).2 = 0 ∧ (telV E x).1 ≠ 0 then telV E y else noR (telV E x).2) = _
          rw [tel_fail E h6, if_neg (by show ¬ (x.n = 0 ∧ _); omega)]
        · rw [telV_eq]
          show (if (telV E x).2 = 0 ∧ (telV E x).1 ≠ 1 then telV E y else telV E x) = _
          rw [tel_fail E h6, if_neg (by show ¬ (x.n = 0 ∧ _); omega)]
      · exact .inl ((becF_cons rfl).trans ((if_neg hc).trans (if_neg h6)))
  · dsimp only at e
    subst e
    have ht : ∀ E, telV E ⟨((27 : Nat) : Int), n, m, [x, y]⟩ = if (telV E x).2 = 0 then telV E x else telV E y := fun E => by rw [telV_eq]; rfl
    by_cases hc : cst x = true
    · exact .inr (.inl ⟨x, by simp, (becF_cons rfl).trans ((if_pos hc).trans rfl), ex, fun E => by rw [ht, tel_cst E hc]; rfl⟩)
    · by_cases h6 : x.op = 6
      · obtain ⟨-, f1, -, -⟩ := fail_of h6 (by rw [ex]; omega)
        exact .inr (.inl ⟨y, by simp, (becF_cons rfl).trans ((if_neg hc).trans ((if_pos h6).trans rfl)), ey, fun E => by rw [ht, tel_fail E h6, if_neg (by show ¬ x.n = 0; omega)]⟩)
      · exact .inl ((becF_cons rfl).trans ((if_neg hc).trans (if_neg h6)))
  · dsimp only at e
    subst e
    have ht : ∀ E, telV E ⟨((28 : Nat) : Int), n, m, [x, y, z]⟩ = if (telV E x).2 = 0 then (if (telV E x).1 = 1 then telV E y else telV E z) else noR (telV E x).2 := fun E => by rw [telV_eq]; rfl
    by_cases hc : cst x = true
    · have ht2 : ∀ E, telV E ⟨((28 : Nat) : Int), n, m, [x, y, z]⟩ = if x.n = 1 then telV E y else telV E z := fun E => by rw [ht, tel_cst E hc]; exact if_pos rfl
      have hb2 : becF ⟨((28 : Nat) : Int), n, m, [x, y, z]⟩ = if x.n = 1 then y else z := (becF_cons rfl).trans ((if_pos hc).trans rfl)
      by_cases q : x.n = 1
      · exact .inr (.inl ⟨y, by simp, hb2.trans (if_pos q), ey, fun E => by rw [ht2, if_pos q]⟩)
      · exact .inr (.inl ⟨z, by simp, hb2.trans (if_neg q), ez, fun E => by rw [ht2, if_neg q]⟩)
    · by_cases h6 : x.op = 6
      · obtain ⟨-, f1, -, -⟩ := fail_of h6 (by rw [ex]; decide)
        exact .inr (.inr (.inl ⟨x.n, (becF_cons rfl).trans ((if_neg hc).trans ((if_pos h6).trans (failed_fail rfl (by omega)))), f1, h12, fun E => by rw [ht, tel_fail E h6]; exact if_neg (by show ¬ x.n = 0; omega)⟩))
      · exact .inl ((becF_cons rfl).trans ((if_neg hc).trans (if_neg h6)))
  · dsimp only at e
    subst e
    left
    rw [becF_cons rfl]
    split
    · rcases hk with rfl | rfl <;> rfl
    · split
      · rcases hk with rfl | rfl <;> rfl
      · rfl
  · cases ps with
    | nil => exact .inl (becF_nil rfl)
    | cons a r =>
      by_cases hc : cst a = true
      · obtain ⟨j, hj, hlt, h3⟩ := lad_pick hl a.n
        have hj' : ladI (a :: r) a.n (a :: r).length (a :: r).length 1 = j := hj
        have hlt' : j < (a :: r).length := hlt
        refine .inr (.inl ⟨(a :: r).getD j co0, ?_, (becF_cons rfl).trans ((if_pos hc).trans ?_), h3, fun E => ?_⟩)
        · show (a :: r).getD j co0 ∈ a :: r
          rw [coD_at hlt']
          exact List.getElem_mem hlt'
        · show (a :: r).getD (ladI (a :: r) a.n (a :: r).length (a :: r).length 1) co0 = _
          rw [hj']
        · have e : telV E ⟨((32 : Nat) : Int), n, m, a :: r⟩ = ladR (a :: r) ((a :: r).map (telV E)) := by rw [telV_eq]; rfl
          rw [e]
          unfold ladR
          have e0 : ((a :: r).map (telV E)).getD 0 (0, 0) = telV E a := rfl
          rw [e0, tel_cst E hc, if_pos rfl]
          dsimp only
          rw [hj', mapD_at hlt', coD_at hlt']
      · left
        rw [becF_cons rfl, if_neg hc]
        split
        · rfl
        · rfl
theorem bec_sort {wn cn ln : Int} {c : Co} (hM : sM c = csort ladF wn cn ln c) (h : csort ladF wn cn ln c ≠ 0) : csort ladF wn cn ln (becF c) = csort ladF wn cn ln c := by
  rcases bec_form hM h with e | ⟨x, -, e, ex, -⟩ | ⟨r, e, hr, h12, -⟩ | ⟨n, e, hs, -⟩ | ⟨n, e, hs, hn, -⟩
  · rw [e]
  · rw [e, ex]
  · rw [e, hM]; exact csort_leaf6 _ _ _ _ _ hr h12
  · rw [e, hs]; exact csort_leaf1 _ _ _ _
  · rw [e, hs]; exact csort_leaf2 _ _ _ _ hn
theorem bec_tel {wn cn ln : Int} {c : Co} (hM : sM c = csort ladF wn cn ln c) (h : csort ladF wn cn ln c ≠ 0) (E : EnvP) : telV E (becF c) = telV E c := by
  rcases bec_form hM h with e | ⟨x, -, e, -, ht⟩ | ⟨r, e, hr, h12, ht⟩ | ⟨n, e, hs, ht⟩ | ⟨n, e, hs, hn, ht⟩
  · rw [e]
  · rw [e, ht]
  · rw [e, ht]; exact tel_fail E rfl
  · rw [e, ht]; exact tel_cst E (x := ⟨1, n, 0, []⟩) rfl
  · rw [e, ht]; exact tel_cst E (x := ⟨2, n, 0, []⟩) rfl
theorem fold_leaf {t : Co} (h : t.parts = []) : foldF t = t := by
  rw [foldF_eq, h]
  obtain ⟨k, n, m, ps⟩ := t
  dsimp only at h
  subst h
  exact becF_nil rfl
/-- Other parts of the same sorts, the bounds the same ones: the same sort. -/
theorem csort_re {wn cn ln k n m : Int} {ps ps' : List Co} (h : csort ladF wn cn ln ⟨k, n, m, ps⟩ ≠ 0) (hs : ps'.map (csort ladF wn cn ln) = ps.map (csort ladF wn cn ln)) (h1 : ∀ i, (ps.getD i co0).op = 1 → ps'.getD i co0 = ps.getD i co0) : csort ladF wn cn ln ⟨k, n, m, ps'⟩ = csort ladF wn cn ln ⟨k, n, m, ps⟩ := by
  obtain ⟨q, hop, hk1, hk2, hb, hp, hz⟩ := formed_w h
  dsimp only at hop
  subst hop
  rw [csort_eq ladF wn cn ln ⟨_, n, m, ps'⟩, csort_eq ladF wn cn ln ⟨_, n, m, ps⟩]
  dsimp only
  rw [hs, Int.toNat_natCast, show fitsB q wn cn ln ⟨(q : Int), n, m, ps'⟩ = fitsB q wn cn ln ⟨(q : Int), n, m, ps⟩ from rfl]
  have key : sortF ladF q ⟨(q : Int), n, m, ps'⟩ (ps.map (csort ladF wn cn ln)) = sortF ladF q ⟨(q : Int), n, m, ps⟩ (ps.map (csort ladF wn cn ln)) := by
    by_cases h32 : q = 32
    · subst h32
      have hz2 : ladF ⟨((32 : Nat) : Int), n, m, ps⟩ (ps.map (csort ladF wn cn ln)) ≠ 0 := fun e => h (hz.trans e)
      have hl : LadOk ⟨((32 : Nat) : Int), n, m, ps⟩ (ps.map (csort ladF wn cn ln)) := (ladB_iff _ _).1 (by
        unfold ladF at hz2
        split at hz2
        · assumption
        · exact absurd rfl hz2)
      show ladF _ _ = ladF _ _
      rw [ladF_yes hl]
      refine ladF_yes ⟨hl.1, hl.2.1, hl.2.2.1, hl.2.2.2.1, fun i i1 i2 => ?_⟩
      obtain ⟨a1, a2, a3⟩ := hl.2.2.2.2 i i1 i2
      have b1 := h1 i a1
      refine ⟨by show (ps'.getD i co0).op = 1; rw [b1]; exact a1, a2, fun hi => ?_⟩
      have b2 := h1 (i - 2) (hl.2.2.2.2 (i - 2) (by omega) (by omega)).1
      show (ps'.getD (i - 2) co0).n < (ps'.getD i co0).n
      rw [b1, b2]
      exact a3 hi
    · unfold sortF
      cases hm : mkT.getD q none with
      | some x => rfl
      | none =>
        rcases mk_none ⟨q, by omega⟩ hk1 hm with e | e | e | e | e <;> dsimp only at e <;> subst e
        · rfl
        · rfl
        · rfl
        · rfl
        · exact absurd rfl h32
  rw [key]
theorem fold_keep {wn cn ln : Int} {x : Co} (h : csort ladF wn cn ln x ≠ 0) (h1 : x.op = 1) : foldF x = x := fold_leaf (cst_of (cst_iff.2 (.inl h1)) h).1
theorem mapD_fold {ps : List Co} {i : Nat} : (ps.map foldF).getD i co0 = foldF (ps.getD i co0) := by
  by_cases h : i < ps.length
  · rw [mapD_at h, coD_at h]
  · rw [show ps.getD i co0 = co0 by simp [List.getD, List.getElem?_eq_none (Nat.not_lt.1 h)], show (ps.map foldF).getD i co0 = co0 by simp [List.getD, List.getElem?_map, List.getElem?_eq_none (Nat.not_lt.1 h)]]
    exact (fold_leaf rfl).symm
theorem bound_keep {wn cn ln : Int} {ps : List Co} (hp : ∀ x, x ∈ ps → csort ladF wn cn ln x ≠ 0) (i : Nat) (h : (ps.getD i co0).op = 1) : (ps.map foldF).getD i co0 = ps.getD i co0 := by
  rw [mapD_fold]
  rcases getD_mem_or ps i with hm | hm
  · exact fold_keep (hp _ hm) h
  · exact fold_leaf hm
/-- The core with folded parts has the core's sort. -/
theorem mid_sort {wn cn ln : Int} {t : Co} (h : csort ladF wn cn ln t ≠ 0) (ih : ∀ x, x ∈ t.parts → csort ladF wn cn ln (foldF x) = csort ladF wn cn ln x) : csort ladF wn cn ln ⟨t.op, t.n, t.m, t.parts.map foldF⟩ = csort ladF wn cn ln t := by
  obtain ⟨q, hop, hk1, hk2, hb, hp, hz⟩ := formed_w h
  obtain ⟨k, n, m, ps⟩ := t
  refine csort_re h ?_ (bound_keep hp)
  rw [List.map_map]
  exact List.map_congr_left ih
theorem fold_sort {wn cn ln : Int} (hw : wn ≤ 256) (hc : cn ≤ 256) (hl : ln ≤ 256) (t : Co) : csort ladF wn cn ln t ≠ 0 → csort ladF wn cn ln (foldF t) = csort ladF wn cn ln t := by
  induction t using Co.ind with
  | h t ih =>
    intro h
    obtain ⟨q, hop, hk1, hk2, hb, hp, hz⟩ := formed_w h
    have hm := mid_sort h (fun x hx => ih x hx (hp x hx))
    rw [foldF_eq, bec_sort (csort_more hw hc hl _ (by rw [hm]; exact h)) (by rw [hm]; exact h), hm]
theorem ladI_same {ps ps' : List Co} {v : Int} {L : Nat} (h : ∀ i, i % 2 = 1 → i + 1 < L → (ps'.getD i co0).n = (ps.getD i co0).n) : ∀ f i, i % 2 = 1 → ladI ps' v L f i = ladI ps v L f i
  | 0, _, _ => rfl
  | f + 1, i, hi => by
    by_cases hL : i + 1 < L
    · by_cases hv : v < (ps.getD i co0).n
      · rw [ladI_hit hL hv (by omega), ladI_hit hL (by rw [h i hi hL]; exact hv) (by omega)]
      · rw [ladI_on hL hv, ladI_on hL (by rw [h i hi hL]; exact hv)]
        exact ladI_same h f (i + 2) (by omega)
    · rw [ladI_end hL (by omega), ladI_end hL (by omega)]
theorem work_re (E : EnvP) (q : Nat) (n m : Int) (ps ps' : List Co) (rs : List Rs) (h : q ≠ 32) (h1 : 1 ≤ q) (h2 : q ≤ 32) : workF E q ⟨(q : Int), n, m, ps'⟩ rs = workF E q ⟨(q : Int), n, m, ps⟩ rs := by
  have hks : q = 1 ∨ q = 2 ∨ q = 3 ∨ q = 4 ∨ q = 5 ∨ q = 6 ∨ q = 7 ∨ q = 8 ∨ q = 9 ∨ q = 10 ∨ q = 11 ∨ q = 12 ∨ q = 13 ∨ q = 14 ∨ q = 15 ∨ q = 16 ∨ q = 17 ∨ q = 18 ∨ q = 19 ∨ q = 20 ∨ q = 21 ∨ q = 22 ∨ q = 23 ∨ q = 24 ∨ q = 25 ∨ q = 26 ∨ q = 27 ∨ q = 28 ∨ q = 29 ∨ q = 30 ∨ q = 31 := by omega
  clear h h1 h2
  rcases hks with rfl | rfl | rfl | rfl | rfl | rfl | rfl | rfl | rfl | rfl | rfl | rfl | rfl | rfl | rfl | rfl | rfl | rfl | rfl | rfl | rfl | rfl | rfl | rfl | rfl | rfl | rfl | rfl | rfl | rfl | rfl <;> rfl
theorem mid_tel {wn cn ln : Int} {t : Co} (E : EnvP) (h : csort ladF wn cn ln t ≠ 0) (ih : ∀ x, x ∈ t.parts → telV E (foldF x) = telV E x) : telV E ⟨t.op, t.n, t.m, t.parts.map foldF⟩ = telV E t := by
  obtain ⟨q, hop, hk1, hk2, hb, hp, hs⟩ := shp_of h
  obtain ⟨k, n, m, ps⟩ := t
  dsimp only at hop hp ih ⊢
  subst hop
  rw [telV_eq E ⟨_, n, m, ps.map foldF⟩, telV_eq E ⟨_, n, m, ps⟩]
  dsimp only
  rw [List.map_map, show ps.map (telV E ∘ foldF) = ps.map (telV E) from List.map_congr_left ih, Int.toNat_natCast]
  by_cases h32 : q = 32
  · subst h32
    have hl : LadOk ⟨((32 : Nat) : Int), n, m, ps⟩ (ps.map (csort ladF wn cn ln)) := by
      rcases hs with ⟨h, -⟩ | ⟨h, -⟩ | ⟨h, -⟩ | ⟨h, -⟩ | ⟨h, -⟩ | ⟨h, -⟩ | ⟨h, -⟩ | ⟨h, -⟩ | ⟨-, -, h⟩
      all_goals first | exact h | omega
    show ladR (ps.map foldF) (ps.map (telV E)) = ladR ps (ps.map (telV E))
    unfold ladR
    rw [List.length_map]
    have hj : ∀ v, ladI (ps.map foldF) v ps.length ps.length 1 = ladI ps v ps.length ps.length 1 := fun v => ladI_same (fun i i1 i2 => by rw [bound_keep hp i (hl.2.2.2.2 i i1 (by rw [List.length_map]; exact i2)).1]) _ 1 rfl
    rw [hj]
  · exact work_re E q n m ps _ _ h32 hk1 hk2
theorem fold_tel {wn cn ln : Int} (hw : wn ≤ 256) (hc : cn ≤ 256) (hl : ln ≤ 256) (E : EnvP) (t : Co) : csort ladF wn cn ln t ≠ 0 → telV E (foldF t) = telV E t := by
  induction t using Co.ind with
  | h t ih =>
    intro h
    obtain ⟨q, hop, hk1, hk2, hb, hp, hz⟩ := formed_w h
    have hm := mid_sort h (fun x hx => fold_sort hw hc hl x (hp x hx))
    rw [foldF_eq, bec_tel (csort_more hw hc hl _ (by rw [hm]; exact h)) (by rw [hm]; exact h) E]
    exact mid_tel E h (fun x hx => ih x hx (hp x hx))
theorem mid_nodes (t : Co) (ih : ∀ x, x ∈ t.parts → cnodes (foldF x) ≤ cnodes x) : cnodes ⟨t.op, t.n, t.m, t.parts.map foldF⟩ ≤ cnodes t := by
  rw [cnodes_eq, cnodes_eq t]
  dsimp only
  have key : ∀ l : List Co, (∀ x, x ∈ l → cnodes (foldF x) ≤ cnodes x) → cnodesL (l.map foldF) ≤ cnodesL l := by
    intro l
    induction l with
    | nil => intro _; exact Nat.le_refl _
    | cons a r ihl =>
      intro h
      rw [List.map_cons, cnodesL_cons, cnodesL_cons]
      have := h a (by simp)
      have := ihl (fun x hx => h x (by simp [hx]))
      omega
  have := key t.parts ih
  omega
theorem leaf_nodes {t : Co} (h : leafy t) : cnodes t = 1 := by rw [cnodes_eq, show t.parts = [] from h, cnodesL_nil]
theorem bec_nodes (c : Co) : cnodes (becF c) ≤ cnodes c := by
  rcases bec_three c with e | e | e
  · rw [e]; exact Nat.le_refl _
  · exact Nat.le_of_lt (cnodes_part e)
  · rw [leaf_nodes e]; exact cnodes_pos c
theorem fold_nodes (t : Co) : cnodes (foldF t) ≤ cnodes t := by
  induction t using Co.ind with
  | h t ih =>
    rw [foldF_eq]
    exact Nat.le_trans (bec_nodes _) (mid_nodes t ih)
theorem fold_again (t : Co) : foldF (foldF t) = foldF t := by
  induction t using Co.ind with
  | h t ih =>
    have hm : (t.parts.map foldF).map foldF = t.parts.map foldF := by
      rw [List.map_map]
      exact List.map_congr_left ih
    rw [foldF_eq t]
    rcases bec_three ⟨t.op, t.n, t.m, t.parts.map foldF⟩ with e | e | e
    · rw [e, foldF_eq]
      dsimp only
      rw [hm]
      exact e
    · obtain ⟨x, hx, hy⟩ := List.mem_map.1 (show _ ∈ t.parts.map foldF from e)
      rw [← hy]
      exact ih x hx
    · exact fold_leaf e
end Go.Proofs.YtbddbnjhmdbkbaaGreatDoor

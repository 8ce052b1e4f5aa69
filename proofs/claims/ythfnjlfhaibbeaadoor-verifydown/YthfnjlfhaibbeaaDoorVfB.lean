/- Package verify, plain: in an accepted program each instruction leads on as its height says. -/
import Derived.Test.YthfnjlfhaibbeaaDoorVeN
namespace Go.Proofs.YthfnjlfhaibbeaaDoor
open Go.RowKit

/-- What an accepted program's states are. -/
theorem loop_down {g : PgP} : ∀ (k i : Nat) (pl : List (Option St)) {q : List (Option St)} {n : Nat}, PIn g pl → loopF g k i pl = (some q, n) → (∀ (j : Nat) (s : St), pl[j]? = some (some s) → q[j]? = some (some s)) ∧ PIn g q ∧ q.length = pl.length ∧
    ∀ j, i ≤ j → j < i + k → ∃ s, q[j]? = some (some s) ∧ (waysF j (g.C.getD j in0).1 (g.C.getD j in0).2 s.1 s.2).2 = true ∧ ∀ x, x ∈ (waysF j (g.C.getD j in0).1 (g.C.getD j in0).2 s.1 s.2).1 → (j : Int) < x.1 ∧ x.1 < (pl.length : Int) ∧ q[x.1.toNat]? = some (some x.2)
  | 0, i, pl, q, n, hp, h => by
    cases h
    exact ⟨fun _ _ hj => hj, hp, rfl, fun j h1 h2 => by omega⟩
  | k + 1, i, pl, q, n, hp, h => by
    cases e : stepF g i pl with
    | none => rw [loop_none e] at h; cases h
    | some p =>
      rw [loop_some e] at h
      have h2 := stepF_in e hp
      obtain ⟨a1, a2, a3, a4⟩ := loop_down k (i + 1) p h2.1 h
      unfold stepF at e
      cases es : pl.getD i none with
      | none => rw [es] at e; cases e
      | some s =>
        rw [es] at e
        simp only at e
        split at e
        · rename_i hc
          rw [Bool.and_eq_true] at hc
          have ho := goesF_out (Int.natCast_nonneg i) _ e
          refine ⟨fun j s hj => a1 j s (ho.2 j s hj), a2, by rw [a3, h2.2], fun j h3 h4 => ?_⟩
          by_cases ej : j = i
          · subst ej
            refine ⟨s, a1 j s (ho.2 j s (at_of_getD es)), hc.1, fun x hx => ?_⟩
            have hx2 := ho.1 x hx
            exact ⟨hx2.1, hx2.2.1, a1 _ _ hx2.2.2.2⟩
          · obtain ⟨s', b1, b2, b3⟩ := a4 j (by omega) (by omega)
            refine ⟨s', b1, b2, fun x hx => ?_⟩
            have := b3 x hx
            rw [h2.2] at this
            exact this
        · cases e
/-- The heights of an accepted program. -/
theorem looks_down {g : PgP} {q : List (Option St)} {n : Nat} (h : looksF cfB g = (some q, n)) : q.length = g.C.length ∧ q[0]? = some (some (0, 0)) ∧ PIn g q ∧
    ∀ j, j < g.C.length → ∃ s, q[j]? = some (some s) ∧ (waysF j (g.C.getD j in0).1 (g.C.getD j in0).2 s.1 s.2).2 = true ∧ ∀ x, x ∈ (waysF j (g.C.getD j in0).1 (g.C.getD j in0).2 s.1 s.2).1 → (j : Int) < x.1 ∧ x.1 < (g.C.length : Int) ∧ q[x.1.toNat]? = some (some x.2) := by
  unfold looksF at h
  cases hb : headB cfB g with
  | false => rw [hb] at h; cases h
  | true =>
    rw [hb] at h
    have hfew : 1 ≤ g.C.length ∧ 0 ≤ g.h := by
      unfold headB fewB at hb
      simp at hb
      omega
    obtain ⟨a1, a2, a3, a4⟩ := loop_down g.C.length 0 (startF g.C.length) (start_in g _ hfew.2) h
    rw [start_len] at a3 a4
    refine ⟨a3, a1 0 (0, 0) ?_, a2, fun j hj => a4 j (Nat.zero_le _) (by omega)⟩
    unfold startF
    rw [List.getElem?_set_self (by simp; omega)]
/-- The tries make no difference to where an instruction leads and how high. -/
theorem ways_one {i op a h t : Int} (hq : (waysF i op a h t).2 = true) (hne : ¬ (op = 29 ∨ op = 30 ∨ op = 31)) : (waysF i op a h 1).2 = true ∧ (waysF i op a h 1).1 ≠ [] ∧ ∀ y, y ∈ (waysF i op a h 1).1 → ∃ x, x ∈ (waysF i op a h t).1 ∧ x.1 = y.1 ∧ x.2.1 = y.2.1 := by
  unfold waysF at hq ⊢
  by_cases c0 : needF op < 0 ∨ h < needF op
  · rw [if_pos c0] at hq
    cases hq
  rw [if_neg c0] at hq
  rw [if_neg c0, if_neg c0]
  by_cases c1 : op = 1 ∨ op = 2 ∨ op = 3 ∨ op = 4 ∨ op = 5 ∨ op = 32
  · rw [if_pos c1, if_pos c1]; simp
  rw [if_neg c1, if_neg c1]
  by_cases c2 : op = 23
  · rw [if_pos c2, if_pos c2]; simp
  rw [if_neg c2, if_neg c2]
  by_cases c3 : op = 24
  · rw [if_pos c3, if_pos c3]; simp
  rw [if_neg c3, if_neg c3]
  by_cases c4 : op = 25
  · rw [if_pos c4, if_pos c4]; simp
  rw [if_neg c4, if_neg c4]
  by_cases c5 : op = 26
  · rw [if_pos c5, if_pos c5]; simp
  rw [if_neg c5, if_neg c5]
  by_cases c6 : op = 27
  · rw [if_pos c6, if_pos c6]; simp
  rw [if_neg c6, if_neg c6, if_neg hne, if_neg hne]
  by_cases c7 : op = 33
  · rw [if_pos c7, if_pos c7]; simp
  rw [if_neg c7, if_neg c7]
  by_cases c8 : needF op = 2
  · rw [if_pos c8, if_pos c8]; simp
  rw [if_neg c8, if_neg c8]
  simp
theorem ways_end {i op a h t : Int} (he : op = 29 ∨ op = 30 ∨ op = 31) : (waysF i op a h t).1 = [] := by
  unfold waysF
  by_cases c0 : needF op < 0 ∨ h < needF op
  · rw [if_pos c0]
  rw [if_neg c0, if_neg (by omega), if_neg (by omega), if_neg (by omega), if_neg (by omega), if_neg (by omega), if_neg (by omega), if_pos he]
end Go.Proofs.YthfnjlfhaibbeaaDoor

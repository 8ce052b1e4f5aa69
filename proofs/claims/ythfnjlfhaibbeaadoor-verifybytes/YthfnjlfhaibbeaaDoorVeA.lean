/- Package verify, plain: what an instruction needs, where it leads; the programs that are accepted. -/
import Derived.Test.YthfnjlfhaibbeaaDoorDcM
namespace Go.Proofs.YthfnjlfhaibbeaaDoor
open Go.RowKit

/-- How many numbers stand on the stack, how many tries are open. -/
abbrev St := Int × Int
/-- Where an instruction leads, with how many numbers and tries. -/
abbrev Wy := Int × Int × Int
def needF (op : Int) : Int :=
  if op < 1 ∨ 33 < op then -1
  else if (6 ≤ op ∧ op ≤ 11) ∨ op = 24 ∨ op = 28 ∨ op = 30 ∨ op = 31 ∨ op = 32 ∨ op = 33 then 1
  else if 12 ≤ op ∧ op ≤ 22 then 2
  else 0
def waysF (i op a h t : Int) : List Wy × Bool :=
  if needF op < 0 ∨ h < needF op then ([], false)
  else if op = 1 ∨ op = 2 ∨ op = 3 ∨ op = 4 ∨ op = 5 ∨ op = 32 then ([(i + 1, h + 1, t)], true)
  else if op = 23 then ([(a, h, t)], true)
  else if op = 24 then ([(a, h - 1, t), (i + 1, h - 1, t)], true)
  else if op = 25 then ([(a, h, t), (i + 1, h, t + 1)], decide (t < 4096))
  else if op = 26 then ([(a, h, t - 1)], decide (0 < t))
  else if op = 27 then ([(a.tmod 16384, h + 1, t), (i + 1, h, t)], true)
  else if op = 29 ∨ op = 30 ∨ op = 31 then ([], decide (h = needF op) && decide (t = 0))
  else if op = 33 then ([(i + 1, h - 1, t)], true)
  else if needF op = 2 then ([(i + 1, h - 1, t)], true)
  else ([(i + 1, h, t)], true)
def belowB (a n : Int) : Bool := decide (0 ≤ a) && decide (a < n)
def argF (g : PgP) (op a : Int) : Bool :=
  if op = 1 then belowB a g.K.length
  else if op = 3 then belowB a g.wins.length
  else if op = 4 then belowB a g.crons.length
  else if op = 5 then decide (1 ≤ a) && decide (a ≤ 3)
  else if op = 11 then belowB a ((g.K.length : Int) - 1) && (decide (0 ≤ g.K.getD a.toNat 0) && decide (1 ≤ g.K.getD (a + 1).toNat 0))
  else if op = 28 then belowB a g.loc
  else if op = 27 then decide (0 ≤ a) && decide (a.tdiv 16384 < g.loc)
  else if op = 23 ∨ op = 24 ∨ op = 25 ∨ op = 26 then true
  else decide (a = 0)
/-- One way is gone: the states of the instructions behind it. -/
def goF (hm i : Int) (pl : List (Option St)) (x : Wy) : Option (List (Option St)) :=
  if x.1 ≤ i ∨ (pl.length : Int) ≤ x.1 ∨ hm < x.2.1 then none
  else match pl.getD x.1.toNat none with
    | none => some (pl.set x.1.toNat (some x.2))
    | some s => if s = x.2 then some pl else none
def goesF (hm i : Int) : List Wy → List (Option St) → Option (List (Option St))
  | [], pl => some pl
  | x :: l, pl => (goF hm i pl x).bind (goesF hm i l)
def stepF (g : PgP) (i : Nat) (pl : List (Option St)) : Option (List (Option St)) :=
  match pl.getD i none with
  | none => none
  | some s =>
    let x := g.C.getD i in0
    let q := waysF i x.1 x.2 s.1 s.2
    if q.2 && argF g x.1 x.2 then goesF g.h i q.1 pl else none
def loopF (g : PgP) : Nat → Nat → List (Option St) → Option (List (Option St)) × Nat
  | 0, _, pl => (some pl, 0)
  | k + 1, i, pl => match stepF g i pl with
    | none => (none, i)
    | some pl' => loopF g k (i + 1) pl'
def startF (n : Nat) : List (Option St) := (List.replicate n none).set 0 (some (0, 0))
def winsB (m : Int) (ws : List WiP) : Bool := ws.all fun x => decide (0 ≤ x.m ∧ 1 ≤ x.a ∧ x.a ≤ 6 ∧ 1 ≤ x.s ∧ x.s ≤ 604800 ∧ (x.a = 6 → 1 ≤ x.p ∧ x.p ≤ 100000000) ∧ (x.a ≠ 6 → x.p = 0)) && decide (x.m < m)
def ruleB (r : RuP) : Bool := decide (0 ≤ r.mn ∧ r.mn ≤ r.mx ∧ 1 ≤ r.mx ∧ r.mx ≤ 1000000 ∧ 1 ≤ r.st ∧ r.st ≤ 1000000 ∧ 0 ≤ r.up ∧ r.up ≤ 604800 ∧ 0 ≤ r.dn ∧ r.dn ≤ 604800)
def fewB (g : PgP) : Bool := decide (g.K.length ≤ 16384) && (decide (g.wins.length ≤ 256) && (decide (g.crons.length ≤ 256) && (decide (1 ≤ g.C.length) && decide (g.C.length ≤ 16384))))
/-- The head is right; F: a schedule is formed. -/
def headB (F : Cr → Bool) (g : PgP) : Bool := (decide (0 ≤ g.met) && decide (g.met ≤ 64)) && (ruleB g.ru && (fewB g && (winsB g.met g.wins && (g.crons.all F && ((decide (0 ≤ g.loc) && decide (g.loc ≤ 256)) && (decide (0 ≤ g.h) && decide (g.h ≤ 4096)))))))
def looksF (F : Cr → Bool) (g : PgP) : Option (List (Option St)) × Nat := if headB F g then loopF g g.C.length 0 (startF g.C.length) else (none, 0)
/-- The states that are known are states of a machine. -/
def PIn (g : PgP) (pl : List (Option St)) : Prop := ∀ (i : Nat) (s : St), pl[i]? = some (some s) → 0 ≤ s.1 ∧ s.1 ≤ g.h ∧ 0 ≤ s.2 ∧ s.2 ≤ 4096
theorem goF_len {hm i : Int} {pl pl' : List (Option St)} {x : Wy} (h : goF hm i pl x = some pl') : pl'.length = pl.length := by
  unfold goF at h
  split at h
  · cases h
  · split at h
    · cases h; simp
    · split at h
      · cases h; rfl
      · cases h
theorem goesF_len {hm i : Int} : ∀ (l : List Wy) {pl pl' : List (Option St)}, goesF hm i l pl = some pl' → pl'.length = pl.length
  | [], pl, pl', h => by cases h; rfl
  | x :: l, pl, pl', h => by
    unfold goesF at h
    cases e : goF hm i pl x with
    | none => rw [e] at h; cases h
    | some p => rw [e] at h; exact (goesF_len l h).trans (goF_len e)
theorem getD_of {α : Type} {l : List α} {i : Nat} {d x : α} (h : l[i]? = some x) : l.getD i d = x := by simp [List.getD, h]
theorem at_of_getD {pl : List (Option St)} {i : Nat} {s : St} (h : pl.getD i none = some s) : pl[i]? = some (some s) := by
  unfold List.getD at h
  cases e : pl[i]? with
  | none => rw [e] at h; cases h
  | some o => rw [e] at h; simp at h; rw [h]
/-- What a way that is gone tells. -/
theorem goF_out {hm i : Int} {pl pl' : List (Option St)} {x : Wy} (h : goF hm i pl x = some pl') : i < x.1 ∧ x.1 < (pl.length : Int) ∧ x.2.1 ≤ hm ∧ (0 ≤ i → pl'[x.1.toNat]? = some (some x.2)) ∧ ∀ (j : Nat) (s : St), pl[j]? = some (some s) → pl'[j]? = some (some s) := by
  unfold goF at h
  split at h
  · cases h
  · rename_i hc
    refine ⟨by omega, by omega, by omega, ?_, ?_⟩
    · intro hi
      split at h
      · cases h
        exact List.getElem?_set_self (by omega)
      · rename_i s e
        split at h
        · rename_i e2
          cases h
          subst e2
          exact at_of_getD e
        · cases h
    · intro j s hj
      split at h
      · rename_i e
        cases h
        by_cases ej : x.1.toNat = j
        · subst ej
          rw [getD_of hj] at e
          cases e
        · rw [List.getElem?_set_ne ej]
          exact hj
      · split at h
        · cases h; exact hj
        · cases h
theorem goesF_out {hm i : Int} (hi : 0 ≤ i) : ∀ (l : List Wy) {pl pl' : List (Option St)}, goesF hm i l pl = some pl' → (∀ x, x ∈ l → i < x.1 ∧ x.1 < (pl.length : Int) ∧ x.2.1 ≤ hm ∧ pl'[x.1.toNat]? = some (some x.2)) ∧ ∀ (j : Nat) (s : St), pl[j]? = some (some s) → pl'[j]? = some (some s)
  | [], pl, pl', h => by cases h; exact ⟨fun x hx => by (cases hx), fun j s hj => hj⟩
  | x :: l, pl, pl', h => by
    unfold goesF at h
    cases e : goF hm i pl x with
    | none => rw [e] at h; cases h
    | some p =>
      rw [e] at h
      have h1 := goF_out e
      have h2 := goesF_out hi l h
      refine ⟨fun y hy => ?_, fun j s hj => h2.2 j s (h1.2.2.2.2 j s hj)⟩
      rcases List.mem_cons.1 hy with rfl | hy
      · exact ⟨h1.1, h1.2.1, h1.2.2.1, h2.2 _ _ (h1.2.2.2.1 hi)⟩
      · have h3 := h2.1 y hy
        rw [goF_len e] at h3
        exact h3
theorem goF_in {g : PgP} {i : Int} {pl pl' : List (Option St)} {x : Wy} (h : goF g.h i pl x = some pl') (hp : PIn g pl) (hx : 0 ≤ x.2.1 ∧ 0 ≤ x.2.2 ∧ x.2.2 ≤ 4096) : PIn g pl' := by
  have hq := goF_out h
  unfold goF at h
  split at h
  · cases h
  · split at h
    · cases h
      intro j s hj
      by_cases ej : x.1.toNat = j
      · subst ej
        rw [List.getElem?_set_self' ] at hj
        cases e : pl[x.1.toNat]? with
        | none => rw [e] at hj; cases hj
        | some o => rw [e] at hj; simp at hj; subst hj; exact ⟨hx.1, hq.2.2.1, hx.2.1, hx.2.2⟩
      · rw [List.getElem?_set_ne ej] at hj
        exact hp j s hj
    · split at h
      · cases h; exact hp
      · cases h
theorem goesF_in {g : PgP} {i : Int} : ∀ (l : List Wy) {pl pl' : List (Option St)}, goesF g.h i l pl = some pl' → PIn g pl → (∀ x, x ∈ l → 0 ≤ x.2.1 ∧ 0 ≤ x.2.2 ∧ x.2.2 ≤ 4096) → PIn g pl'
  | [], pl, pl', h, hp, _ => by cases h; exact hp
  | x :: l, pl, pl', h, hp, hx => by
    unfold goesF at h
    cases e : goF g.h i pl x with
    | none => rw [e] at h; cases h
    | some p =>
      rw [e] at h
      exact goesF_in l h (goF_in e hp (hx x (by simp))) (fun y hy => hx y (by simp [hy]))
theorem ways_in {i op a h t : Int} (h0 : 0 ≤ h) (h1 : 0 ≤ t) (h2 : t ≤ 4096) (hq : (waysF i op a h t).2 = true) : ∀ x, x ∈ (waysF i op a h t).1 → 0 ≤ x.2.1 ∧ 0 ≤ x.2.2 ∧ x.2.2 ≤ 4096 := by
  intro x hx
  have hn : op = 24 ∨ op = 33 ∨ (12 ≤ op ∧ op ≤ 22) → 1 ≤ needF op := by
    intro ho
    unfold needF
    rw [if_neg (by omega)]
    split
    · omega
    · rw [if_pos (by omega)]; omega
  have hn2 : needF op = 2 → 1 ≤ needF op := by omega
  unfold waysF at hx hq
  by_cases c0 : needF op < 0 ∨ h < needF op
  · rw [if_pos c0] at hx hq
    cases hx
  rw [if_neg c0] at hx hq
  by_cases c1 : op = 1 ∨ op = 2 ∨ op = 3 ∨ op = 4 ∨ op = 5 ∨ op = 32
  · rw [if_pos c1] at hx hq
    simp only [List.mem_cons, List.not_mem_nil, or_false] at hx
    subst hx
    simp only
    omega
  rw [if_neg c1] at hx hq
  by_cases c2 : op = 23
  · rw [if_pos c2] at hx hq
    simp only [List.mem_cons, List.not_mem_nil, or_false] at hx
    subst hx
    simp only
    omega
  rw [if_neg c2] at hx hq
  by_cases c3 : op = 24
  · rw [if_pos c3] at hx hq
    simp only [List.mem_cons, List.not_mem_nil, or_false] at hx
    rcases hx with rfl | rfl <;> simp only <;> omega
  rw [if_neg c3] at hx hq
  by_cases c4 : op = 25
  · rw [if_pos c4] at hx hq
    simp only [List.mem_cons, List.not_mem_nil, or_false] at hx
    rcases hx with rfl | rfl <;> simp at hq ⊢ <;> omega
  rw [if_neg c4] at hx hq
  by_cases c5 : op = 26
  · rw [if_pos c5] at hx hq
    simp only [List.mem_cons, List.not_mem_nil, or_false] at hx
    subst hx
    simp at hq ⊢
    omega
  rw [if_neg c5] at hx hq
  by_cases c6 : op = 27
  · rw [if_pos c6] at hx hq
    simp only [List.mem_cons, List.not_mem_nil, or_false] at hx
    rcases hx with rfl | rfl <;> simp only <;> omega
  rw [if_neg c6] at hx hq
  by_cases c7 : op = 29 ∨ op = 30 ∨ op = 31
  · rw [if_pos c7] at hx hq
    cases hx
  rw [if_neg c7] at hx hq
  by_cases c8 : op = 33
  · rw [if_pos c8] at hx hq
    simp only [List.mem_cons, List.not_mem_nil, or_false] at hx
    subst hx
    simp only
    omega
  rw [if_neg c8] at hx hq
  by_cases c9 : needF op = 2
  · rw [if_pos c9] at hx hq
    simp only [List.mem_cons, List.not_mem_nil, or_false] at hx
    subst hx
    simp only
    omega
  rw [if_neg c9] at hx hq
  simp only [List.mem_cons, List.not_mem_nil, or_false] at hx
  subst hx
  simp only
  omega
theorem stepF_in {g : PgP} {i : Nat} {pl pl' : List (Option St)} (h : stepF g i pl = some pl') (hp : PIn g pl) : PIn g pl' ∧ pl'.length = pl.length := by
  unfold stepF at h
  cases e : pl.getD i none with
  | none => rw [e] at h; cases h
  | some s =>
    rw [e] at h
    simp only at h
    split at h
    · rename_i hc
      have hs := hp i s (at_of_getD e)
      rw [Bool.and_eq_true] at hc
      exact ⟨goesF_in _ h hp (ways_in hs.1 hs.2.2.1 hs.2.2.2 hc.1), goesF_len _ h⟩
    · cases h
theorem start_in (g : PgP) (n : Nat) (hg : 0 ≤ g.h) : PIn g (startF n) := by
  intro i s hs
  unfold startF at hs
  by_cases e : 0 = i
  · subst e
    cases n with
    | zero => simp at hs
    | succ n => simp [List.replicate_succ] at hs; subst hs; exact ⟨by simp, hg, by simp, by simp⟩
  · rw [List.getElem?_set_ne e] at hs
    have := List.mem_of_getElem? hs
    simp at this
end Go.Proofs.YthfnjlfhaibbeaaDoor

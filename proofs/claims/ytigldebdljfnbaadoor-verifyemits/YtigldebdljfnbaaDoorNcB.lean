import Derived.Test.YtigldebdljfnbaaDoorNbP
import Derived.Test.YtigldebdljfnbaaDoorMgP
import Derived.Test.YtigldebdljfnbaaDoorNcA
section
namespace Go.Proofs.YtigldebdljfnbaaDoor
open Go.RowKit

abbrev St := Int × Int
abbrev Wy := Int × Int × Int
def needF (op : Int) : Int :=
  if op < 1 ∨ 33 < op then -1
  else if (6 ≤ op ∧ op ≤ 11) ∨ op = 24 ∨ op = 28 ∨ op = 30 ∨ op = 31 ∨ op = 32 ∨ op = 33 then 1
  else if 12 ≤ op ∧ op ≤ 22 then 2
  else 0
def waysF (i op a h t : Int) : List Wy × Bool :=
  if needF op < 0 ∨ h < needF op then ([], false)
  else if op = 1 ∨ op = 2 ∨ op = 3 ∨ op = 4 ∨ op = 5 ∨ op = 32 then ([(i + 1, h + 1, t)], true)
  else if op = 23 then ([(a, h, t)], true)
  else if op = 24 then ([(a, h - 1, t), (i + 1, h - 1, t)], true)
  else if op = 25 then ([(a, h, t), (i + 1, h, t + 1)], decide (t < 4096))
  else if op = 26 then ([(a, h, t - 1)], decide (0 < t))
  else if op = 27 then ([(a.tmod 16384, h + 1, t), (i + 1, h, t)], true)
  else if op = 29 ∨ op = 30 ∨ op = 31 then ([], decide (h = needF op) && decide (t = 0))
  else if op = 33 then ([(i + 1, h - 1, t)], true)
  else if needF op = 2 then ([(i + 1, h - 1, t)], true)
  else ([(i + 1, h, t)], true)
def argF (g : PgP) (op a : Int) : Bool :=
  if op = 1 then belowB a g.K.length
  else if op = 3 then belowB a g.wins.length
  else if op = 4 then belowB a g.crons.length
  else if op = 5 then decide (1 ≤ a) && decide (a ≤ 3)
  else if op = 11 then belowB a ((g.K.length : Int) - 1) && (decide (0 ≤ g.K.getD a.toNat 0) && decide (1 ≤ g.K.getD (a + 1).toNat 0))
  else if op = 28 then belowB a g.loc
  else if op = 27 then decide (0 ≤ a) && decide (a.tdiv 16384 < g.loc)
  else if op = 23 ∨ op = 24 ∨ op = 25 ∨ op = 26 then true
  else decide (a = 0)
def goF (hm i : Int) (pl : List (Option St)) (x : Wy) : Option (List (Option St)) :=
  if x.1 ≤ i ∨ (pl.length : Int) ≤ x.1 ∨ hm < x.2.1 then none
  else match pl.getD x.1.toNat none with
    | none => some (pl.set x.1.toNat (some x.2))
    | some s => if s = x.2 then some pl else none
def goesF (hm i : Int) : List Wy → List (Option St) → Option (List (Option St))
  | [], pl => some pl
  | x :: l, pl => (goF hm i pl x).bind (goesF hm i l)
def stepF (g : PgP) (i : Nat) (pl : List (Option St)) : Option (List (Option St)) :=
  match pl.getD i none with
  | none => none
  | some s =>
    let x := g.C.getD i in0
    let q := waysF i x.1 x.2 s.1 s.2
    if q.2 && argF g x.1 x.2 then goesF g.h i q.1 pl else none
def loopF (g : PgP) : Nat → Nat → List (Option St) → Option (List (Option St)) × Nat
  | 0, _, pl => (some pl, 0)
  | k + 1, i, pl => match stepF g i pl with
    | none => (none, i)
    | some pl' => loopF g k (i + 1) pl'
def startF (n : Nat) : List (Option St) := (List.replicate n none).set 0 (some (0, 0))
def winsB (m : Int) (ws : List WiP) : Bool := ws.all fun x => decide (0 ≤ x.m ∧ 1 ≤ x.a ∧ x.a ≤ 6 ∧ 1 ≤ x.s ∧ x.s ≤ 604800 ∧ (x.a = 6 → 1 ≤ x.p ∧ x.p ≤ 100000000) ∧ (x.a ≠ 6 → x.p = 0)) && decide (x.m < m)
def ruleB (r : RuP) : Bool := decide (0 ≤ r.mn ∧ r.mn ≤ r.mx ∧ 1 ≤ r.mx ∧ r.mx ≤ 1000000 ∧ 1 ≤ r.st ∧ r.st ≤ 1000000 ∧ 0 ≤ r.up ∧ r.up ≤ 604800 ∧ 0 ≤ r.dn ∧ r.dn ≤ 604800)
def vewB (g : PgP) : Bool := decide (g.K.length ≤ 16384) && (decide (g.wins.length ≤ 256) && (decide (g.crons.length ≤ 256) && (decide (1 ≤ g.C.length) && decide (g.C.length ≤ 16384))))
def headB (F : Cr → Bool) (g : PgP) : Bool := (decide (0 ≤ g.met) && decide (g.met ≤ 64)) && (ruleB g.ru && (vewB g && (winsB g.met g.wins && (g.crons.all F && ((decide (0 ≤ g.loc) && decide (g.loc ≤ 256)) && (decide (0 ≤ g.h) && decide (g.h ≤ 4096)))))))
def looksF (F : Cr → Bool) (g : PgP) : Option (List (Option St)) × Nat := if headB F g then loopF g g.C.length 0 (startF g.C.length) else (none, 0)
def PIn (g : PgP) (pl : List (Option St)) : Prop := ∀ (i : Nat) (s : St), pl[i]? = some (some s) → 0 ≤ s.1 ∧ s.1 ≤ g.h ∧ 0 ≤ s.2 ∧ s.2 ≤ 4096
theorem goF_len {hm i : Int} {pl pl' : List (Option St)} {x : Wy} (h : goF hm i pl x = some pl') : pl'.length = pl.length := by
  unfold goF at h
  split at h
  · cases h
  · split at h
    · cases h; simp
    · split at h
      · cases h; rfl
      · cases h
theorem goesF_len {hm i : Int} : ∀ (l : List Wy) {pl pl' : List (Option St)}, goesF hm i l pl = some pl' → pl'.length = pl.length
  | [], pl, pl', h => by cases h; rfl
  | x :: l, pl, pl', h => by
    unfold goesF at h
    cases e : goF hm i pl x with
    | none => rw [e] at h; cases h
    | some p => rw [e] at h; exact (goesF_len l h).trans (goF_len e)
theorem getD_of {α : Type} {l : List α} {i : Nat} {d x : α} (h : l[i]? = some x) : l.getD i d = x := by simp [List.getD, h]
theorem at_of_getD {pl : List (Option St)} {i : Nat} {s : St} (h : pl.getD i none = some s) : pl[i]? = some (some s) := by
  unfold List.getD at h
  cases e : pl[i]? with
  | none => rw [e] at h; cases h
  | some o => rw [e] at h; simp at h; rw [h]
theorem goF_out {hm i : Int} {pl pl' : List (Option St)} {x : Wy} (h : goF hm i pl x = some pl') : i < x.1 ∧ x.1 < (pl.length : Int) ∧ x.2.1 ≤ hm ∧ (0 ≤ i → pl'[x.1.toNat]? = some (some x.2)) ∧ ∀ (j : Nat) (s : St), pl[j]? = some (some s) → pl'[j]? = some (some s) := by
  unfold goF at h
  split at h
  · cases h
  · rename_i hc
    refine ⟨by omega, by omega, by omega, ?_, ?_⟩
    · intro hi
      split at h
      · cases h
        exact List.getElem?_set_self (by omega)
      · rename_i s e
        split at h
        · rename_i e2
          cases h
          subst e2
          exact at_of_getD e
        · cases h
    · intro j s hj
      split at h
      · rename_i e
        cases h
        by_cases ej : x.1.toNat = j
        · subst ej
          rw [getD_of hj] at e
          cases e
        · rw [List.getElem?_set_ne ej]
          exact hj
      · split at h
        · cases h; exact hj
        · cases h
theorem goesF_out {hm i : Int} (hi : 0 ≤ i) : ∀ (l : List Wy) {pl pl' : List (Option St)}, goesF hm i l pl = some pl' → (∀ x, x ∈ l → i < x.1 ∧ x.1 < (pl.length : Int) ∧ x.2.1 ≤ hm ∧ pl'[x.1.toNat]? = some (some x.2)) ∧ ∀ (j : Nat) (s : St), pl[j]? = some (some s) → pl'[j]? = some (some s)
  | [], pl, pl', h => by cases h; exact ⟨fun x hx => by (cases hx), fun j s hj => hj⟩
  | x :: l, pl, pl', h => by
    unfold goesF at h
    cases e : goF hm i pl x with
    | none => rw [e] at h; cases h
    | some p =>
      rw [e] at h
      have h1 := goF_out e
      have h2 := goesF_out hi l h
      refine ⟨fun y hy => ?_, fun j s hj => h2.2 j s (h1.2.2.2.2 j s hj)⟩
      rcases List.mem_cons.1 hy with rfl | hy
      · exact ⟨h1.1, h1.2.1, h1.2.2.1, h2.2 _ _ (h1.2.2.2.1 hi)⟩
      · have h3 := h2.1 y hy
        rw [goF_len e] at h3
        exact h3
theorem goF_in {g : PgP} {i : Int} {pl pl' : List (Option St)} {x : Wy} (h : goF g.h i pl x = some pl') (hp : PIn g pl) (hx : 0 ≤ x.2.1 ∧ 0 ≤ x.2.2 ∧ x.2.2 ≤ 4096) : PIn g pl' := by
  have hq := goF_out h
  unfold goF at h
  split at h
  · cases h
  · split at h
    · cases h
      intro j s hj
      by_cases ej : x.1.toNat = j
      · subst ej
        rw [List.getElem?_set_self' ] at hj
        cases e : pl[x.1.toNat]? with
        | none => rw [e] at hj; cases hj
        | some o => rw [e] at hj; simp at hj; subst hj; exact ⟨hx.1, hq.2.2.1, hx.2.1, hx.2.2⟩
      · rw [List.getElem?_set_ne ej] at hj
        exact hp j s hj
    · split at h
      · cases h; exact hp
      · cases h
theorem goesF_in {g : PgP} {i : Int} : ∀ (l : List Wy) {pl pl' : List (Option St)}, goesF g.h i l pl = some pl' → PIn g pl → (∀ x, x ∈ l → 0 ≤ x.2.1 ∧ 0 ≤ x.2.2 ∧ x.2.2 ≤ 4096) → PIn g pl'
  | [], pl, pl', h, hp, _ => by cases h; exact hp
  | x :: l, pl, pl', h, hp, hx => by
    unfold goesF at h
    cases e : goF g.h i pl x with
    | none => rw [e] at h; cases h
    | some p =>
      rw [e] at h
      exact goesF_in l h (goF_in e hp (hx x (by simp))) (fun y hy => hx y (by simp [hy]))
theorem ways_in {i op a h t : Int} (h0 : 0 ≤ h) (h1 : 0 ≤ t) (h2 : t ≤ 4096) (hq : (waysF i op a h t).2 = true) : ∀ x, x ∈ (waysF i op a h t).1 → 0 ≤ x.2.1 ∧ 0 ≤ x.2.2 ∧ x.2.2 ≤ 4096 := by
  intro x hx
  have hn : op = 24 ∨ op = 33 ∨ (12 ≤ op ∧ op ≤ 22) → 1 ≤ needF op := by
    intro ho
    unfold needF
    rw [if_neg (by omega)]
    split
    · omega
    · rw [if_pos (by omega)]; omega
  have hn2 : needF op = 2 → 1 ≤ needF op := by omega
  unfold waysF at hx hq
  by_cases c0 : needF op < 0 ∨ h < needF op
  · rw [if_pos c0] at hx hq
    cases hx
  rw [if_neg c0] at hx hq
  by_cases c1 : op = 1 ∨ op = 2 ∨ op = 3 ∨ op = 4 ∨ op = 5 ∨ op = 32
  · rw [if_pos c1] at hx hq
    simp only [List.mem_cons, List.not_mem_nil, or_false] at hx
    subst hx
    simp only
    omega
  rw [if_neg c1] at hx hq
  by_cases c2 : op = 23
  · rw [if_pos c2] at hx hq
    simp only [List.mem_cons, List.not_mem_nil, or_false] at hx
    subst hx
    simp only
    omega
  rw [if_neg c2] at hx hq
  by_cases c3 : op = 24
  · rw [if_pos c3] at hx hq
    simp only [List.mem_cons, List.not_mem_nil, or_false] at hx
    rcases hx with rfl | rfl <;> simp only <;> omega
  rw [if_neg c3] at hx hq
  by_cases c4 : op = 25
  · rw [if_pos c4] at hx hq
    simp only [List.mem_cons, List.not_mem_nil, or_false] at hx
    rcases hx with rfl | rfl <;> simp at hq ⊢ <;> omega
  rw [if_neg c4] at hx hq
  by_cases c5 : op = 26
  · rw [if_pos c5] at hx hq
    simp only [List.mem_cons, List.not_mem_nil, or_false] at hx
    subst hx
    simp at hq ⊢
    omega
  rw [if_neg c5] at hx hq
  by_cases c6 : op = 27
  · rw [if_pos c6] at hx hq
    simp only [List.mem_cons, List.not_mem_nil, or_false] at hx
    rcases hx with rfl | rfl <;> simp only <;> omega
  rw [if_neg c6] at hx hq
  by_cases c7 : op = 29 ∨ op = 30 ∨ op = 31
  · rw [if_pos c7] at hx hq
    cases hx
  rw [if_neg c7] at hx hq
  by_cases c8 : op = 33
  · rw [if_pos c8] at hx hq
    simp only [List.mem_cons, List.not_mem_nil, or_false] at hx
    subst hx
    simp only
    omega
  rw [if_neg c8] at hx hq
  by_cases c9 : needF op = 2
  · rw [if_pos c9] at hx hq
    simp only [List.mem_cons, List.not_mem_nil, or_false] at hx
    subst hx
    simp only
    omega
  rw [if_neg c9] at hx hq
  simp only [List.mem_cons, List.not_mem_nil, or_false] at hx
  subst hx
  simp only
  omega
theorem stepF_in {g : PgP} {i : Nat} {pl pl' : List (Option St)} (h : stepF g i pl = some pl') (hp : PIn g pl) : PIn g pl' ∧ pl'.length = pl.length := by
  unfold stepF at h
  cases e : pl.getD i none with
  | none => rw [e] at h; cases h
  | some s =>
    rw [e] at h
    simp only at h
    split at h
    · rename_i hc
      have hs := hp i s (at_of_getD e)
      rw [Bool.and_eq_true] at hc
      exact ⟨goesF_in _ h hp (ways_in hs.1 hs.2.2.1 hs.2.2.2 hc.1), goesF_len _ h⟩
    · cases h
theorem start_in (g : PgP) (n : Nat) (hg : 0 ≤ g.h) : PIn g (startF n) := by
  intro i s hs
  unfold startF at hs
  by_cases e : 0 = i
  · subst e
    cases n with
    | zero => simp at hs
    | succ n => simp [List.replicate_succ] at hs; subst hs; exact ⟨by simp, hg, by simp, by simp⟩
  · rw [List.getElem?_set_ne e] at hs
    have := List.mem_of_getElem? hs
    simp at this
end Go.Proofs.YtigldebdljfnbaaDoor
end
section
namespace Go.Proofs.YtigldebdljfnbaaDoor
open Go.RowKit Go.Lib

abbrev inL (x : Ins) : List Value := [.int .i64 x.1, .int .i64 x.2]
structure PgOk (g : PgP) : Prop where
  met : C64 g.met
  ru : RuOk g.ru
  K : ∀ x, x ∈ g.K → C64 x
  wins : ∀ x, x ∈ g.wins → WiOk x
  crons : ∀ x, x ∈ g.crons → x.Fits
  loc : C64 g.loc
  h : C64 g.h
  C : ∀ x, x ∈ g.C → C64 x.1 ∧ C64 x.2

theorem RowsK.turn {w w' : World} {v : Value} {n k : Nat} {cs : Nat → List Value} {S : List Nat} (h : RowsK w v n k cs) (t : Turn S w w') (hS : ∀ b, v.ownBlock = some b → b ∉ S) : RowsK w' v n k cs := by
  obtain ⟨ad, cap, hv, h1, h2, hp⟩ := h
  refine ⟨ad, cap, hv, h1, h2, ?_⟩
  rcases hp with hp | ⟨b, off, ha, hl, hc⟩
  · exact .inl hp
  · exact .inr ⟨b, off, ha, Nat.lt_of_lt_of_le hl t.size, fun i hi j x hx => (t.cell (p := ⟨b, _, none⟩) hl (hS b (by rw [hv, ha]; rfl))).trans (hc i hi j x hx)⟩
def InsAt (w : World) (v : Value) (l : List Ins) : Prop := RowsK w v l.length 2 (fun i => inL (l.getD i in0))
theorem own_turn {w w' : World} {S : List Nat} {B : Nat} {e : TypeId} {size n : Nat} {v : Value} {xs : List Value} (h : w.ownsRow B e size v n xs) (t : Turn S w w') (hS : ∀ b, v.ownBlock = some b → b ∉ S) : w'.ownsRow B e size v n xs :=
  own_of_keep h (fun b hb => t.block b (h.lt b hb).2 (hS b hb))
end Go.Proofs.YtigldebdljfnbaaDoor
end
section
namespace Go.Proofs.YtigldebdljfnbaaDoor
open Go.RowKit

def flR {α : Type} (L : α → List Value) (xs : List α) : List Value := (xs.map L).flatten
theorem flR_at {α : Type} {L : α → List Value} {k : Nat} (hL : ∀ a, (L a).length = k) : ∀ (xs : List α) (i j : Nat) (x : α) (u : Value), xs[i]? = some x → (L x)[j]? = some u → (flR L xs)[i * k + j]? = some u
  | [], _, _, _, _, h, _ => by cases h
  | y :: r, 0, j, x, u, h, hu => by
    cases h
    have hj := (List.getElem?_eq_some_iff.1 hu).1
    rw [Nat.zero_mul, Nat.zero_add]
    show (L y ++ flR L r)[j]? = some u
    rw [List.getElem?_append_left hj]
    exact hu
  | y :: r, i + 1, j, x, u, h, hu => by
    have := flR_at hL r i j x u h hu
    show (L y ++ flR L r)[(i + 1) * k + j]? = some u
    rw [List.getElem?_append_right (by rw [hL, Nat.succ_mul]; omega), hL, show (i + 1) * k + j - k = i * k + j by rw [Nat.succ_mul]; omega]
    exact this
def OwR {α : Type} (e : TypeId) (k : Nat) (L : α → List Value) (B : Nat) (xs : List α) (x : Value) (w : World) : Prop := w.ownsRow B e k x xs.length (flR L xs)
theorem OwR.rows {α : Type} {e : TypeId} {k : Nat} {L : α → List Value} {B : Nat} {xs : List α} {x : Value} {w : World} (hL : ∀ a, (L a).length = k) (h : OwR e k L B xs x w) (d : α) : RowsK w x xs.length k (fun i => L (xs.getD i d)) :=
  rows_of_box h (fun i hi j u hu => flR_at hL xs i j (xs.getD i d) u (by simp [List.getD, hi]) hu)
end Go.Proofs.YtigldebdljfnbaaDoor
end
section
namespace Go.Proofs.YtigldebdljfnbaaDoor

abbrev wyOf (w : Nat × Sq) : Wy := ((w.1 : Int), w.2)
structure EvOf (E : Ev) (g : PgP) : Prop where
  K : E.K = g.K
  wn : E.wn = g.wins.length
  cn : E.cn = g.crons.length
  ln : E.ln = g.loc
theorem One.low {E : Ev} {x : Ins} {i : Nat} {s : Sq} {ws : List (Nat × Sq)} (h : One E x i s ws) (h0 : 0 ≤ s.1) : ∀ w, w ∈ ws → 0 ≤ w.2.1 := by
  intro w hw
  rcases h with ⟨⟨hh, tt, a, h1, rfl, rfl, rfl⟩ | ⟨hh, tt, rfl, rfl, rfl⟩ | ⟨hh, tt, a, h1, h2, rfl, rfl, rfl⟩ | ⟨hh, tt, a, h1, h2, rfl, rfl, rfl⟩ | ⟨hh, tt, a, h1, h2, rfl, rfl, rfl⟩ | ⟨hh, tt, h1, rfl, rfl, rfl⟩ | ⟨hh, tt, n, m, a, h1, h2, h3, h4, h5, rfl, rfl, rfl⟩ | ⟨hh, tt, n, h1, h2, h3, rfl, rfl, rfl⟩ | ⟨hh, tt, op, h1, h2, h3, rfl, rfl, rfl⟩ | ⟨hh, tt, op, h1, h2, h3, rfl, rfl, rfl⟩ | ⟨hh, tt, to, rfl, rfl, rfl⟩ | ⟨hh, tt, to, h1, rfl, rfl, rfl⟩ | ⟨hh, tt, to, h1, rfl, rfl, rfl⟩ | ⟨hh, tt, to, h1, rfl, rfl, rfl⟩ | ⟨hh, tt, n, to, h1, h2, rfl, rfl, rfl⟩ | ⟨rfl, rfl, rfl⟩ | ⟨op, h1, rfl, rfl, rfl⟩ | ⟨hh, tt, h1, rfl, rfl, rfl⟩⟩ <;> simp only [List.mem_cons, List.not_mem_nil, or_false] at hw h0
  all_goals first
    | (subst hw; simp only; omega)
    | (rcases hw with rfl | rfl <;> simp only <;> omega)
theorem Sg.low {E : Ev} {L : List Ins} {b : Nat} {T : Nat → Sq} {n : Int} (h : Sg E L b T n) (h0 : 0 ≤ (T 0).1) : ∀ j, j ≤ b → 0 ≤ (T j).1 := by
  intro j
  induction j using Nat.strongRecOn with
  | ind j ih =>
    intro hj
    by_cases hz : j = 0
    · subst hz; exact h0
    · obtain ⟨i, x, ws, h1, -, h2, h3, -⟩ := h.come j (by omega) hj
      exact h2.low (ih i h1 (by omega)) _ h3
theorem way0 {op h : Int} (hn : needF op = 0) (h0 : 0 ≤ h) : ¬ (needF op < 0 ∨ h < needF op) := by omega
theorem ways_up {i op a h t : Int} (ho : op = 1 ∨ op = 2 ∨ op = 3 ∨ op = 4 ∨ op = 5 ∨ op = 32) (hn : ¬ (needF op < 0 ∨ h < needF op)) : waysF i op a h t = ([(i + 1, h + 1, t)], true) := by
  unfold waysF
  rw [if_neg hn, if_pos ho]
theorem ways_same {i op a h t : Int} (ho : (6 ≤ op ∧ op ≤ 11) ∨ op = 28) (hh : 1 ≤ h) : waysF i op a h t = ([(i + 1, h, t)], true) := by
  have hn : needF op = 1 := by
    unfold needF
    rw [if_neg (by omega), if_pos (by omega)]
  unfold waysF
  rw [if_neg (by omega), if_neg (by omega), if_neg (by omega), if_neg (by omega), if_neg (by omega), if_neg (by omega), if_neg (by omega), if_neg (by omega), if_neg (by omega), if_neg (by omega)]
theorem ways_two {i op a h t : Int} (ho : 12 ≤ op ∧ op ≤ 22) (hh : 2 ≤ h) : waysF i op a h t = ([(i + 1, h - 1, t)], true) := by
  have hn : needF op = 2 := by
    unfold needF
    rw [if_neg (by omega), if_neg (by omega), if_pos (by omega)]
  unfold waysF
  rw [if_neg (by omega), if_neg (by omega), if_neg (by omega), if_neg (by omega), if_neg (by omega), if_neg (by omega), if_neg (by omega), if_neg (by omega), if_neg (by omega), if_pos hn]
theorem arg_zero {g : PgP} {op : Int} (h1 : op ≠ 1) (h3 : op ≠ 3) (h4 : op ≠ 4) (h5 : op ≠ 5) (h11 : op ≠ 11) (h28 : op ≠ 28) (h27 : op ≠ 27) (hj : ¬ (op = 23 ∨ op = 24 ∨ op = 25 ∨ op = 26)) : argF g op 0 = true := by
  unfold argF
  rw [if_neg h1, if_neg h3, if_neg h4, if_neg h5, if_neg h11, if_neg h28, if_neg h27, if_neg hj]
  rfl
theorem below_yes {a n : Int} (h0 : 0 ≤ a) (h1 : a < n) : belowB a n = true := by
  unfold belowB
  simp only [Bool.and_eq_true, decide_eq_true_eq]
  exact ⟨h0, h1⟩
theorem arg_1 (g : PgP) (a : Int) : argF g 1 a = belowB a g.K.length := rfl
theorem arg_3 (g : PgP) (a : Int) : argF g 3 a = belowB a g.wins.length := rfl
theorem arg_4 (g : PgP) (a : Int) : argF g 4 a = belowB a g.crons.length := rfl
theorem arg_5 (g : PgP) (a : Int) : argF g 5 a = (decide (1 ≤ a) && decide (a ≤ 3)) := rfl
theorem arg_11 (g : PgP) (a : Int) : argF g 11 a = (belowB a ((g.K.length : Int) - 1) && (decide (0 ≤ g.K.getD a.toNat 0) && decide (1 ≤ g.K.getD (a + 1).toNat 0))) := rfl
theorem arg_28 (g : PgP) (a : Int) : argF g 28 a = belowB a g.loc := rfl
theorem arg_27 (g : PgP) (a : Int) : argF g 27 a = (decide (0 ≤ a) && decide (a.tdiv 16384 < g.loc)) := rfl
theorem one_way {E : Ev} {g : PgP} (q : EvOf E g) {x : Ins} {i : Nat} {s : Sq} {ws : List (Nat × Sq)} (h : One E x i s ws) (h0 : 0 ≤ s.1) (hw : ∀ w, w ∈ ws → w.1 < 16384) : waysF i x.1 x.2 s.1 s.2 = (ws.map wyOf, true) ∧ argF g x.1 x.2 = true := by
  obtain ⟨q1, q2, q3, q4⟩ := q
  rcases h with ⟨⟨hh, tt, a, h1, rfl, rfl, rfl⟩ | ⟨hh, tt, rfl, rfl, rfl⟩ | ⟨hh, tt, a, h1, h2, rfl, rfl, rfl⟩ | ⟨hh, tt, a, h1, h2, rfl, rfl, rfl⟩ | ⟨hh, tt, a, h1, h2, rfl, rfl, rfl⟩ | ⟨hh, tt, h1, rfl, rfl, rfl⟩ | ⟨hh, tt, n, m, a, h1, h2, h3, h4, h5, rfl, rfl, rfl⟩ | ⟨hh, tt, n, h1, h2, h3, rfl, rfl, rfl⟩ | ⟨hh, tt, op, h1, h2, h3, rfl, rfl, rfl⟩ | ⟨hh, tt, op, h1, h2, h3, rfl, rfl, rfl⟩ | ⟨hh, tt, to, rfl, rfl, rfl⟩ | ⟨hh, tt, to, h1, rfl, rfl, rfl⟩ | ⟨hh, tt, to, h1, rfl, rfl, rfl⟩ | ⟨hh, tt, to, h1, rfl, rfl, rfl⟩ | ⟨hh, tt, n, to, h1, h2, rfl, rfl, rfl⟩ | ⟨rfl, rfl, rfl⟩ | ⟨op, h1, rfl, rfl, rfl⟩ | ⟨hh, tt, h1, rfl, rfl, rfl⟩⟩
  · exact ⟨ways_up (by simp) (way0 rfl h0), (arg_1 _ _).trans (below_yes (by omega) (by rw [q1] at h1; omega))⟩
  · exact ⟨ways_up (by simp) (way0 rfl h0), rfl⟩
  · exact ⟨ways_up (by simp) (way0 rfl h0), (arg_3 _ _).trans (below_yes h1 (by omega))⟩
  · exact ⟨ways_up (by simp) (way0 rfl h0), (arg_4 _ _).trans (below_yes h1 (by omega))⟩
  · exact ⟨ways_up (by simp) (way0 rfl h0), by
      simp only [arg_5, Bool.and_eq_true, decide_eq_true_eq]
      exact ⟨h1, h2⟩⟩
  · exact ⟨ways_up (by simp) (by rw [show needF 32 = 1 from rfl]; omega), rfl⟩
  · rw [q1] at h1 h2
    have l2 := (List.getElem?_eq_some_iff.1 h2).1
    refine ⟨ways_same (by simp) h5, ?_⟩
    simp only [arg_11]
    rw [below_yes (by omega) (by omega), Int.toNat_natCast, show ∀ a : Nat, ((a : Int) + 1).toNat = a + 1 from fun a => by omega, getD_of h1, getD_of h2, decide_eq_true h3, decide_eq_true h4]
    rfl
  · exact ⟨ways_same (by simp) h3, (arg_28 _ _).trans (below_yes h1 (by omega))⟩
  · exact ⟨ways_same (by simp only; omega) h3, arg_zero (by omega) (by omega) (by omega) (by omega) (by omega) (by omega) (by omega) (by omega)⟩
  · exact ⟨ways_two ⟨h1, h2⟩ h3, arg_zero (by omega) (by omega) (by omega) (by omega) (by omega) (by omega) (by omega) (by omega)⟩
  · refine ⟨?_, rfl⟩
    unfold waysF
    rw [if_neg (way0 rfl h0)]
    rfl
  · refine ⟨?_, rfl⟩
    unfold waysF
    rw [if_neg (by rw [show needF 24 = 1 from rfl]; simp only; omega)]
    rfl
  · refine ⟨?_, rfl⟩
    unfold waysF
    rw [if_neg (way0 rfl h0)]
    simp only [decide_eq_true h1]
    rfl
  · refine ⟨?_, rfl⟩
    unfold waysF
    rw [if_neg (way0 rfl h0)]
    simp only [decide_eq_true h1]
    rfl
  · have ht := hw (to, (hh + 1, tt)) (by simp)
    simp only at ht
    have e1 : (n * 16384 + (to : Int)).tmod 16384 = to := by
      rw [Int.tmod_eq_emod_of_nonneg (by omega)]
      omega
    have e2 : (n * 16384 + (to : Int)).tdiv 16384 = n := by
      rw [Int.tdiv_eq_ediv_of_nonneg (by omega)]
      omega
    refine ⟨?_, ?_⟩
    · unfold waysF
      rw [if_neg (way0 rfl h0)]
      simp only [e1]
      rfl
    · simp only [arg_27, e2, Bool.and_eq_true, decide_eq_true_eq]
      exact ⟨by omega, by omega⟩
  · exact ⟨rfl, rfl⟩
  · rcases h1 with rfl | rfl <;> exact ⟨rfl, rfl⟩
  · refine ⟨?_, rfl⟩
    unfold waysF
    rw [if_neg (by rw [show needF 33 = 1 from rfl]; simp only; omega)]
    rfl

structure Met (g : PgP) (T : Nat → Sq) : Prop where
  pos : 0 < g.C.length
  zero : T 0 = (0, 0)
  go : ∀ i, i < g.C.length → ∃ ws : List (Nat × Sq), waysF i (g.C.getD i in0).1 (g.C.getD i in0).2 (T i).1 (T i).2 = (ws.map wyOf, true) ∧ argF g (g.C.getD i in0).1 (g.C.getD i in0).2 = true ∧ ∀ w, w ∈ ws → i < w.1 ∧ w.1 < g.C.length ∧ T w.1 = w.2
  come : ∀ j, 0 < j → j < g.C.length → ∃ i, i < j ∧ ((j : Int), T j) ∈ (waysF i (g.C.getD i in0).1 (g.C.getD i in0).2 (T i).1 (T i).2).1
theorem met_of {E : Ev} {g : PgP} {T : Nat → Sq} {n : Int} (q : EvOf E g) (h : Sg E g.C (g.C.length - 1) T n) (h0 : T 0 = (0, 0)) (hp : 0 < g.C.length) (hl : g.C.length ≤ 16384) : Met g T := by
  have hw := h.low (by rw [h0]; exact Int.le_refl _)
  have hg : ∀ i, i < g.C.length → g.C[i]? = some (g.C.getD i in0) := fun i hi => by simp [List.getD, hi]
  refine ⟨hp, h0, fun i hi => ?_, fun j hj0 hj => ?_⟩
  · obtain ⟨ws, h1, h2⟩ := h.go i _ (hg i hi)
    obtain ⟨e1, e2⟩ := one_way q h1 (hw i (by omega)) (fun w hw => by have := (h2 w hw).2.1; omega)
    exact ⟨ws, e1, e2, fun w hw => ⟨(h2 w hw).1, by have := (h2 w hw).2.1; omega, (h2 w hw).2.2⟩⟩
  · obtain ⟨i, x, ws, h1, h2, h3, h4, h5⟩ := h.come j hj0 (by omega)
    have hi := (List.getElem?_eq_some_iff.1 h2).1
    rw [hg i hi] at h2
    cases h2
    refine ⟨i, h1, ?_⟩
    rw [(one_way q h3 (hw i (by omega)) (fun w hw => by have := h5 w hw; omega)).1]
    exact List.mem_map.2 ⟨_, h4, rfl⟩

structure Kn (g : PgP) (T : Nat → Sq) (pl : List (Option St)) : Prop where
  len : pl.length = g.C.length
  ok : ∀ (j : Nat) (s : St), pl[j]? = some (some s) → s = T j
theorem goF_yes {g : PgP} {T : Nat → Sq} {pl : List (Option St)} {hm : Int} {i : Nat} {w : Nat × Sq} (h : Kn g T pl) (h1 : i < w.1) (h2 : w.1 < g.C.length) (h3 : T w.1 = w.2) (h4 : w.2.1 ≤ hm) : ∃ p, goF hm i pl (wyOf w) = some p ∧ Kn g T p := by
  have hl := h.len
  unfold goF
  rw [if_neg (by show ¬ ((w.1 : Int) ≤ i ∨ (pl.length : Int) ≤ w.1 ∨ hm < w.2.1); omega), show (wyOf w).1.toNat = w.1 from Int.toNat_natCast _]
  cases e : pl.getD w.1 none with
  | none =>
    refine ⟨_, rfl, by simp [hl], fun j s hj => ?_⟩
    by_cases ej : w.1 = j
    · subst ej
      rw [List.getElem?_set_self (by omega)] at hj
      cases hj
      exact h3.symm
    · rw [List.getElem?_set_ne ej] at hj
      exact h.ok j s hj
  | some s =>
    have := h.ok w.1 s (at_of_getD e)
    have e2 : s = (wyOf w).2 := this.trans h3
    exact ⟨pl, if_pos e2, h⟩
theorem goesF_yes {g : PgP} {T : Nat → Sq} {hm : Int} {i : Nat} : ∀ (ws : List (Nat × Sq)) (pl : List (Option St)), Kn g T pl → (∀ w, w ∈ ws → (i < w.1 ∧ w.1 < g.C.length ∧ T w.1 = w.2) ∧ w.2.1 ≤ hm) → ∃ p, goesF hm i (ws.map wyOf) pl = some p ∧ Kn g T p
  | [], pl, h, _ => ⟨pl, rfl, h⟩
  | w :: ws, pl, h, H => by
    obtain ⟨⟨a1, a2, a3⟩, a4⟩ := H w (by simp)
    obtain ⟨p, e1, h1⟩ := goF_yes h a1 a2 a3 a4
    obtain ⟨r, e2, h2⟩ := goesF_yes (hm := hm) (i := i) ws p h1 (fun v hv => H v (by simp [hv]))
    refine ⟨r, ?_, h2⟩
    show (goF hm i pl (wyOf w)).bind (goesF hm i (ws.map wyOf)) = some r
    rw [e1]
    exact e2
structure Lp (g : PgP) (T : Nat → Sq) (i : Nat) (pl : List (Option St)) : Prop where
  kn : Kn g T pl
  at0 : pl[0]? = some (some (T 0))
  ways : ∀ k, k < i → ∀ y, y ∈ (waysF k (g.C.getD k in0).1 (g.C.getD k in0).2 (T k).1 (T k).2).1 → pl[y.1.toNat]? = some (some y.2)
theorem Lp.here {g : PgP} {T : Nat → Sq} {i : Nat} {pl : List (Option St)} (m : Met g T) (h : Lp g T i pl) (j : Nat) (hj : j ≤ i) (hn : j < g.C.length) : pl[j]? = some (some (T j)) := by
  by_cases h0 : j = 0
  · subst h0; exact h.at0
  · obtain ⟨k, hk, hy⟩ := m.come j (by omega) hn
    have := h.ways k (by omega) _ hy
    simpa using this
theorem step_yes {g : PgP} {T : Nat → Sq} {i : Nat} {pl : List (Option St)} (m : Met g T) (hh : ∀ j, j < g.C.length → (T j).1 ≤ g.h) (h : Lp g T i pl) (hi : i < g.C.length) : ∃ p, stepF g i pl = some p ∧ Lp g T (i + 1) p := by
  have hs := h.here m i (Nat.le_refl _) hi
  obtain ⟨ws, w1, w2, w3⟩ := m.go i hi
  obtain ⟨p, e, hk⟩ := goesF_yes (hm := g.h) (i := i) ws pl h.kn (fun w hw => ⟨w3 w hw, by
    obtain ⟨-, a2, a3⟩ := w3 w hw
    rw [← a3]
    exact hh _ a2⟩)
  have ho := goesF_out (hm := g.h) (i := (i : Int)) (by omega) (ws.map wyOf) e
  refine ⟨p, ?_, hk, ?_, ?_⟩
  · unfold stepF
    rw [getD_of hs]
    simp only [w1, w2, Bool.and_self, if_true]
    exact e
  · exact ho.2 0 _ h.at0
  · intro k hk' y hy
    by_cases hc : k < i
    · exact ho.2 _ _ (h.ways k hc y hy)
    · obtain rfl : k = i := by omega
      rw [w1] at hy
      exact (ho.1 y hy).2.2.2
theorem loop_yes {g : PgP} {T : Nat → Sq} (m : Met g T) (hh : ∀ j, j < g.C.length → (T j).1 ≤ g.h) : ∀ (k i : Nat) (pl : List (Option St)), i + k = g.C.length → Lp g T i pl → ∃ p, loopF g k i pl = (some p, 0) ∧ Lp g T g.C.length p
  | 0, i, pl, e, h => ⟨pl, rfl, by have e' : i = g.C.length := by omega
                                   rw [← e']; exact h⟩
  | k + 1, i, pl, e, h => by
    obtain ⟨p, e1, h1⟩ := step_yes m hh h (by omega)
    obtain ⟨r, e2, h2⟩ := loop_yes m hh k (i + 1) p (by omega) h1
    refine ⟨r, ?_, h2⟩
    unfold loopF
    rw [e1]
    exact e2
theorem start_lp {g : PgP} {T : Nat → Sq} (m : Met g T) : Lp g T 0 (startF g.C.length) := by
  have hp := m.pos
  have h0 : (startF g.C.length)[0]? = some (some (T 0)) := by
    unfold startF
    rw [List.getElem?_set_self (by simp; omega), m.zero]
  refine ⟨⟨by simp [startF], fun j s hj => ?_⟩, h0, fun k hk => by omega⟩
  by_cases e : j = 0
  · subst e
    rw [h0] at hj
    cases hj
    rfl
  · unfold startF at hj
    rw [List.getElem?_set_ne (by omega)] at hj
    have := List.mem_of_getElem? hj
    simp at this
theorem loop_all {g : PgP} {T : Nat → Sq} (m : Met g T) (hh : ∀ j, j < g.C.length → (T j).1 ≤ g.h) : loopF g g.C.length 0 (startF g.C.length) = (some ((List.range g.C.length).map fun j => some (T j)), 0) := by
  obtain ⟨p, e, h⟩ := loop_yes m hh g.C.length 0 _ (by omega) (start_lp m)
  rw [e]
  congr 2
  refine List.ext_getElem? fun j => ?_
  by_cases hj : j < g.C.length
  · rw [h.here m j (by omega) hj]
    simp [hj]
  · rw [List.getElem?_eq_none (by rw [h.kn.len]; omega), List.getElem?_eq_none (by simp; omega)]
def lowP (g : PgP) (h : Int) : PgP := { g with h := h }
theorem goF_mono {hm hm' i : Int} {pl p : List (Option St)} {x : Wy} (hle : hm ≤ hm') (h : goF hm i pl x = some p) : goF hm' i pl x = some p := by
  unfold goF at h ⊢
  by_cases hc : x.1 ≤ i ∨ (pl.length : Int) ≤ x.1 ∨ hm < x.2.1
  · rw [if_pos hc] at h; cases h
  · rw [if_neg hc] at h
    rw [if_neg (by omega)]
    exact h
theorem goesF_mono {hm hm' i : Int} (hle : hm ≤ hm') : ∀ (l : List Wy) {pl p : List (Option St)}, goesF hm i l pl = some p → goesF hm' i l pl = some p
  | [], _, _, h => h
  | x :: l, pl, p, h => by
    unfold goesF at h ⊢
    cases e : goF hm i pl x with
    | none => rw [e] at h; cases h
    | some r =>
      rw [e] at h
      rw [goF_mono hle e]
      exact goesF_mono hle l h
theorem step_mono {g : PgP} {h : Int} (hle : h ≤ g.h) {i : Nat} {pl p : List (Option St)} (e : stepF (lowP g h) i pl = some p) : stepF g i pl = some p := by
  unfold stepF at e ⊢
  cases c : pl.getD i none with
  | none => rw [c] at e; cases e
  | some s =>
    rw [c] at e
    simp only at e ⊢
    have ha : ∀ op a, argF (lowP g h) op a = argF g op a := fun _ _ => rfl
    have hC : (lowP g h).C = g.C := rfl
    have hH : (lowP g h).h = h := rfl
    rw [hC, ha, hH] at e
    split at e
    · rename_i hc
      rw [if_pos hc]
      exact goesF_mono hle _ e
    · cases e
theorem loop_mono {g : PgP} {h : Int} (hle : h ≤ g.h) : ∀ (k i : Nat) (pl p : List (Option St)) (n : Nat), loopF (lowP g h) k i pl = (some p, n) → PIn (lowP g h) pl → loopF g k i pl = (some p, n) ∧ PIn (lowP g h) p
  | 0, i, pl, p, n, e, hp => by
    cases e
    exact ⟨rfl, hp⟩
  | k + 1, i, pl, p, n, e, hp => by
    unfold loopF at e ⊢
    cases c : stepF (lowP g h) i pl with
    | none => rw [c] at e; cases e
    | some r =>
      rw [c] at e
      simp only at e
      have hq := (stepF_in c hp).1
      rw [step_mono hle c]
      exact loop_mono hle k (i + 1) r p n e hq
theorem loop_less {g : PgP} {T : Nat → Sq} (m : Met g T) (hh : ∀ j, j < g.C.length → (T j).1 ≤ g.h) {h : Int} (h0 : 0 ≤ h) (hle : h ≤ g.h) {j : Nat} (hj : j < g.C.length) (hb : h < (T j).1) : (loopF (lowP g h) g.C.length 0 (startF g.C.length)).1 = none := by
  cases e : loopF (lowP g h) g.C.length 0 (startF g.C.length) with
  | mk o n =>
    cases o with
    | none => rfl
    | some p =>
      obtain ⟨e1, hp⟩ := loop_mono hle _ _ _ _ _ e (start_in (lowP g h) _ h0)
      rw [loop_all m hh] at e1
      cases e1
      have := hp j (T j) (by simp [hj])
      have h2 : (T j).1 ≤ h := this.2.1
      omega

theorem head_prog {q : Co → Co → Bool} {p : PlP} (hf : formedP q p = true) (hl : largeB (progF p) = false) (hp : 0 < (progF p).C.length) : headB cfB (progF p) = true := by
  unfold formedP at hf
  simp only [Bool.and_eq_true] at hf
  obtain ⟨⟨⟨⟨⟨h1, h2⟩, h3⟩, h4⟩, h5⟩, h6⟩ := hf
  have hz := of_decide_eq_true h1
  unfold listsB at h4
  simp only [Bool.and_eq_true] at h4
  unfold largeB at hl
  simp only [Bool.or_eq_false_iff, decide_eq_false_iff_not] at hl
  have hw : winsB (progF p).met (progF p).wins = true := by
    unfold winsB
    rw [List.all_eq_true] at h4 ⊢
    intro x hx
    have := h4.1 x hx
    unfold wiB rightB at this
    exact this
  have hg : (0 : Int) ≤ (progF p).h := by show (0 : Int) ≤ ((plHgt p : Nat) : Int); omega
  unfold headB vewB
  simp only [Bool.and_eq_true, decide_eq_true_eq]
  refine ⟨⟨by show (0 : Int) ≤ ((p.mets.length : Nat) : Int); omega, by show ((p.mets.length : Nat) : Int) ≤ 64; omega⟩, h3, ⟨by omega, ?_, ?_, by omega, by omega⟩, hw, h4.2, ⟨?_, ?_⟩, hg, by omega⟩
  · show p.wins.length ≤ 256; omega
  · show p.crons.length ≤ 256; omega
  · show 0 ≤ p.loc; omega
  · show p.loc ≤ 256; omega
theorem emit_looks {q : Co → Co → Bool} {p : PlP} (hf : formedP q p = true) (hl : largeB (progF p) = false) : ∃ T : Nat → St, 0 < (progF p).C.length ∧ looksF cfB (progF p) = (some ((List.range (progF p).C.length).map fun j => some (T j)), 0) ∧ (∀ j, j < (progF p).C.length → 0 ≤ (T j).1 ∧ (T j).1 ≤ (progF p).h) ∧ (∃ j, j < (progF p).C.length ∧ (T j).1 = (progF p).h) ∧ (1 ≤ (progF p).h → (looksF cfB (lowP (progF p) ((progF p).h - 1))).1 = none) := by
  have hf0 := hf
  unfold formedP at hf
  simp only [Bool.and_eq_true] at hf
  obtain ⟨⟨⟨⟨⟨h1, h2⟩, h3⟩, h4⟩, h5⟩, h6⟩ := hf
  unfold sortsB at h5
  simp only [Bool.and_eq_true, List.all_eq_true, decide_eq_true_eq] at h5
  have hl0 := hl
  unfold largeB at hl
  simp only [Bool.or_eq_false_iff, decide_eq_false_iff_not] at hl
  have Q : EvOf ⟨(progF p).K, p.wins.length, p.crons.length, p.loc⟩ (progF p) := ⟨rfl, rfl, rfl, rfl⟩
  have A := plan_sg (E := ⟨(progF p).K, p.wins.length, p.crons.length, p.loc⟩) p.gs p.fin (fun g hg => ⟨h5.1 g hg, few_guard h2 hg⟩) h5.2 (few_fin h2)
  obtain ⟨T, t0, hp, S⟩ := (A []).2 (List.prefix_refl _)
  have hp' : 0 < (progF p).C.length := hp
  have S' : Sg _ (progF p).C ((progF p).C.length - 1) T (progF p).h := S
  have M := met_of Q S' t0 hp' (by omega)
  have hlow := S'.low (by rw [t0]; exact Int.le_refl _)
  have hH := fun j (hj : j < (progF p).C.length) => S'.top j (by omega)
  have hd := head_prog hf0 hl0 hp'
  refine ⟨T, hp', ?_, fun j hj => ⟨hlow j (by omega), hH j hj⟩, ?_, fun h => ?_⟩
  · unfold looksF
    rw [if_pos hd]
    exact loop_all M hH
  · obtain ⟨j, hj, he⟩ := S'.at_
    exact ⟨j, by omega, he⟩
  · obtain ⟨j, hj, he⟩ := S'.at_
    unfold looksF
    split
    · exact loop_less M hH (by omega) (by omega) (j := j) (by omega) (by omega)
    · rfl
end Go.Proofs.YtigldebdljfnbaaDoor
end
section
namespace Go.Proofs.YtigldebdljfnbaaDoor
open Go.RowKit

def AllFit (t : Co) : Prop := ∀ x, x ∈ cpord t → CFit x
theorem af_self {t : Co} (h : AllFit t) : CFit t := h t (by rw [cpord_eq]; simp)
theorem af_part {t x : Co} (h : AllFit t) (hx : x ∈ t.parts) : AllFit x := fun y hy => h y (by
  rw [cpord_eq]
  simp only [List.mem_flatten, List.mem_map, List.mem_cons]
  first
    | exact .inl ⟨_, ⟨x, hx, rfl⟩, hy⟩
    | exact .inr ⟨_, ⟨x, hx, rfl⟩, hy⟩)
theorem af_of {w : World} : ∀ (t : Co) (v : Value), CSits w t v → AllFit t := by
  refine Co.ind fun t ih v h => ?_
  have hf := h.fit
  intro y hy
  rw [cpord_eq] at hy
  simp only [List.mem_flatten, List.mem_map, List.mem_cons] at hy
  have hp : ∀ x, x ∈ t.parts → AllFit x := by
    intro x hx
    obtain ⟨i, hi, rfl⟩ := List.getElem_of_mem hx
    obtain ⟨b, off, cap, -, -, -, -, hc⟩ := h.parts.open (by omega)
    obtain ⟨u, -, hu⟩ := hc i hi
    exact ih _ hx u hu
  have key : (∃ l, (∃ a, a ∈ t.parts ∧ cpord a = l) ∧ y ∈ l) → CFit y := by
    rintro ⟨l, ⟨a, ha, rfl⟩, hy⟩
    exact hp a ha y hy
  first
    | exact hy.elim key (fun e => e ▸ hf)
    | exact hy.elim (fun e => e ▸ hf) key
def NC (m : Mk) : Prop := ∀ K, (∀ x, x ∈ K → C64 x) → ∀ x, x ∈ (m K).2 → C64 x
theorem nc_num {n : Int} (h : C64 n) : NC (numM n) := fun K hK x hx => by
  have hx' : x ∈ numK K n := hx
  unfold numK at hx'
  split at hx'
  · exact hK x hx'
  · rcases List.mem_append.1 hx' with h1 | h1
    · exact hK x h1
    · simp only [List.mem_cons, List.not_mem_nil, or_false] at h1
      rw [h1]; exact h
theorem nc_sca {n m : Int} (h1 : C64 n) (h2 : C64 m) : NC (scaM n m) := fun K hK x hx => by
  have hx' : x ∈ pairK K n m := hx
  unfold pairK at hx'
  split at hx'
  · exact hK x hx'
  · split at hx'
    all_goals
      rcases List.mem_append.1 hx' with h3 | h3
      · exact hK x h3
      · simp only [List.mem_cons, List.not_mem_nil, or_false] at h3
        first
          | (rw [h3]; exact h2)
          | (rcases h3 with rfl | rfl; exact h1; exact h2)
theorem nc_ins (op a : Int) : NC (insM op a) := fun _ hK x hx => hK x hx
theorem nc_then {a b : Mk} (ha : NC a) (hb : NC b) : NC (thenM a b) := fun K hK x hx => hb (a K).2 (ha K hK) x hx
theorem nc_fork {op over : Int} {a b : Mk} (ha : NC a) (hb : NC b) : NC (forkM op over a b) := fun K hK x hx => hb (a K).2 (ha K hK) x hx
theorem nc_over {op more : Int} {a : Mk} (e : List Ins) (ha : NC a) : NC (overM op more a e) := fun K hK x hx => ha K hK x hx
theorem nc_nil : NC (allM []) := fun _ hK x hx => hK x hx
theorem nc_get {l : List Co} (h : ∀ x, x ∈ l → NC (codF x)) (i : Nat) : NC ((l.map codF).getD i (allM [])) := by
  unfold List.getD
  rw [List.getElem?_map]
  cases e : l[i]? with
  | none => exact nc_nil
  | some x => exact h x (List.mem_of_getElem? e)
theorem nc_all : ∀ (l : List Co), (∀ x, x ∈ l → NC (codF x)) → NC (allM (l.map codF))
  | [], _ => nc_nil
  | x :: r, h => nc_then (h x (by simp)) (nc_all r (fun y hy => h y (by simp [hy])))
theorem nc_rung : ∀ (l : List Co), (∀ x, x ∈ l → NC (codF x) ∧ C64 x.n) → NC (rungM (l.map fun x => (x, codF x)))
  | [], _ => nc_ins 33 0
  | [a], h => nc_then (nc_ins 33 0) (h a (by simp)).1
  | b :: a :: r, h => nc_then (nc_then (nc_ins 32 0) (nc_then (nc_num (h b (by simp)).2) (nc_ins 16 0))) (nc_then (nc_over (op := 24) (more := 0) [] (nc_then (nc_ins 33 0) (h a (by simp)).1)) (nc_rung r (fun y hy => h y (by simp [hy]))))
theorem cod_nc : ∀ (t : Co), AllFit t → NC (codF t) := by
  refine Co.ind fun t ih hf => ?_
  have ip : ∀ x, x ∈ t.parts → NC (codF x) := fun x hx => ih x hx (af_part hf hx)
  have hs := af_self hf
  have z0 : C64 0 := by unfold C64; omega
  have z1 : C64 1 := by unfold C64; omega
  rw [codF_eq]
  unfold codO
  split
  · exact nc_num hs.n
  · split
    · exact nc_over _ (nc_get ip 0)
    · split
      · exact nc_then (nc_get ip 0) (nc_sca hs.n hs.m)
      · split
        · exact nc_then (nc_get ip 0) (nc_fork (nc_get ip 1) (nc_num z0))
        · split
          · exact nc_then (nc_get ip 0) (nc_fork (nc_num z1) (nc_get ip 1))
          · split
            · exact nc_then (nc_get ip 0) (nc_fork (nc_get ip 1) (nc_get ip 2))
            · split
              · exact nc_fork (nc_get ip 0) (nc_get ip 1)
              · split
                · rw [zip_cod]
                  refine nc_then (nc_get ip 0) ?_
                  cases hp : t.parts with
                  | nil => exact nc_ins 33 0
                  | cons a r => exact nc_rung r (fun x hx => ⟨ip x (by rw [hp]; simp [hx]), (af_self (af_part hf (by rw [hp]; simp [hx]))).n⟩)
                · exact nc_then (nc_all _ ip) (nc_ins _ _)
theorem plan_nc : ∀ (gs : List (Co × Co)) (f : Co), (∀ g, g ∈ gs → AllFit g.1 ∧ AllFit g.2) → AllFit f → NC (planM gs f)
  | [], f, _, hf => cod_nc f hf
  | g :: r, f, hg, hf => nc_then (nc_then (cod_nc _ (hg g (by simp)).1) (nc_over (op := 24) (more := 0) [] (cod_nc _ (hg g (by simp)).2))) (plan_nc r f (fun x hx => hg x (by simp [hx])) hf)
theorem One.fit {E : Ev} {x : Ins} {i : Nat} {s : Sq} {ws : List (Nat × Sq)} (h : One E x i s ws) (hk : E.K.length ≤ 16384) (hw : E.wn ≤ 256) (hc : E.cn ≤ 256) (hl : E.ln ≤ 256) (ht : ∀ w, w ∈ ws → w.1 < 16384) : C64 x.1 ∧ C64 x.2 := by
  unfold C64
  rcases h with ⟨⟨hh, tt, a, h1, rfl, rfl, rfl⟩ | ⟨hh, tt, rfl, rfl, rfl⟩ | ⟨hh, tt, a, h1, h2, rfl, rfl, rfl⟩ | ⟨hh, tt, a, h1, h2, rfl, rfl, rfl⟩ | ⟨hh, tt, a, h1, h2, rfl, rfl, rfl⟩ | ⟨hh, tt, h1, rfl, rfl, rfl⟩ | ⟨hh, tt, n, m, a, h1, h2, h3, h4, h5, rfl, rfl, rfl⟩ | ⟨hh, tt, n, h1, h2, h3, rfl, rfl, rfl⟩ | ⟨hh, tt, op, h1, h2, h3, rfl, rfl, rfl⟩ | ⟨hh, tt, op, h1, h2, h3, rfl, rfl, rfl⟩ | ⟨hh, tt, to, rfl, rfl, rfl⟩ | ⟨hh, tt, to, h1, rfl, rfl, rfl⟩ | ⟨hh, tt, to, h1, rfl, rfl, rfl⟩ | ⟨hh, tt, to, h1, rfl, rfl, rfl⟩ | ⟨hh, tt, n, to, h1, h2, rfl, rfl, rfl⟩ | ⟨rfl, rfl, rfl⟩ | ⟨op, h1, rfl, rfl, rfl⟩ | ⟨hh, tt, h1, rfl, rfl, rfl⟩⟩
  · exact ⟨by simp only; omega, by simp only; omega⟩
  · exact ⟨by simp only; omega, by simp only; omega⟩
  · exact ⟨by simp only; omega, by simp only; omega⟩
  · exact ⟨by simp only; omega, by simp only; omega⟩
  · exact ⟨by simp only; omega, by simp only; omega⟩
  · exact ⟨by simp only; omega, by simp only; omega⟩
  · have := (List.getElem?_eq_some_iff.1 h1).1
    exact ⟨by simp only; omega, by simp only; omega⟩
  · exact ⟨by simp only; omega, by simp only; omega⟩
  · exact ⟨by simp only; omega, by simp only; omega⟩
  · exact ⟨by simp only; omega, by simp only; omega⟩
  · have := ht _ (List.mem_cons_self ..)
    exact ⟨by simp only; omega, by simp only at this ⊢; omega⟩
  · have := ht _ (List.mem_cons_self ..)
    exact ⟨by simp only; omega, by simp only at this ⊢; omega⟩
  · have := ht _ (List.mem_cons_self ..)
    exact ⟨by simp only; omega, by simp only at this ⊢; omega⟩
  · have := ht _ (List.mem_cons_self ..)
    exact ⟨by simp only; omega, by simp only at this ⊢; omega⟩
  · have := ht _ (List.mem_cons_self ..)
    exact ⟨by simp only; omega, by simp only at this ⊢; omega⟩
  · exact ⟨by simp only; omega, by simp only; omega⟩
  · exact ⟨by simp only; omega, by simp only; omega⟩
  · exact ⟨by simp only; omega, by simp only; omega⟩
theorem prog_ok {q : Co → Co → Bool} {p : PlP} {v : PlV} {w : World} (hs : PlAt w p v) (hf : formedP q p = true) (hl : largeB (progF p) = false) : PgOk (progF p) := by
  unfold formedP at hf
  simp only [Bool.and_eq_true] at hf
  obtain ⟨⟨⟨⟨⟨h1, h2⟩, h3⟩, h4⟩, h5⟩, h6⟩ := hf
  have hz := of_decide_eq_true h1
  unfold sortsB at h5
  simp only [Bool.and_eq_true, List.all_eq_true, decide_eq_true_eq] at h5
  unfold largeB at hl
  simp only [Bool.or_eq_false_iff, decide_eq_false_iff_not] at hl
  have A := plan_sg (E := ⟨(progF p).K, p.wins.length, p.crons.length, p.loc⟩) p.gs p.fin (fun g hg => ⟨h5.1 g hg, few_guard h2 hg⟩) h5.2 (few_fin h2)
  obtain ⟨T, t0, hp, S⟩ := (A []).2 (List.prefix_refl _)
  have S' : Sg _ (progF p).C ((progF p).C.length - 1) T (progF p).h := S
  have hp' : 0 < (progF p).C.length := hp
  have hg : ∀ g, g ∈ p.gs → AllFit g.1 ∧ AllFit g.2 := by
    intro g hg
    obtain ⟨i, hi, rfl⟩ := List.getElem_of_mem hg
    obtain ⟨b, off, cap, -, -, -, -, hc⟩ := hs.gs.open (by omega)
    obtain ⟨u1, u2, -, -, s1, s2⟩ := hc i hi
    exact ⟨af_of _ _ s1, af_of _ _ s2⟩
  refine ⟨?_, hs.ru, ?_, hs.wok, hs.cok, hs.loc, ?_, ?_⟩
  · show C64 ((p.mets.length : Nat) : Int)
    unfold C64
    omega
  · exact fun x hx => plan_nc p.gs p.fin hg (af_of _ _ hs.fi) [] (fun y hy => by cases hy) x hx
  · have h0 : (0 : Int) ≤ (progF p).h := by show (0 : Int) ≤ ((plHgt p : Nat) : Int); omega
    unfold C64
    omega
  · intro x hx
    obtain ⟨i, hi⟩ := List.mem_iff_getElem?.1 hx
    obtain ⟨ws, o1, o2⟩ := S'.go i x hi
    exact o1.fit (by show (progF p).K.length ≤ 16384; omega) (by show ((p.wins.length : Nat) : Int) ≤ 256; omega) (by show ((p.crons.length : Nat) : Int) ≤ 256; omega) (by show p.loc ≤ 256; omega) (fun u hu => by have := (o2 u hu).2.1; omega)

theorem low_rd {w : World} {g : PgP} {u : PgV} (h : PgRd w g u) (n : Int) : PgRd w (lowP g n) u := ⟨h.k, h.wi, h.cr, h.c⟩
theorem low_ok {g : PgP} (h : PgOk g) {n : Int} (hn : C64 n) : PgOk (lowP g n) := ⟨h.met, h.ru, h.K, h.wins, h.crons, h.loc, hn, h.C⟩
theorem emit_two (q : Co → Co → Bool) (p : PlP) : (∃ er : Int, emitF q p = (pg0, er) ∧ er ≠ 0) ∨ (emitF q p = (progF p, 0) ∧ formedP q p = true ∧ largeB (progF p) = false) := by
  unfold emitF
  cases h1 : formedP q p with
  | false => exact .inl ⟨1, rfl, by decide⟩
  | true =>
    cases h2 : largeB (progF p) with
    | true => exact .inl ⟨14, rfl, by decide⟩
    | false => exact .inr ⟨rfl, rfl, rfl⟩
theorem max_two (P : Program) (x y : Int) (w : World) : (Builtin.max_ #[3, 3] 3 #[.int .i64 x, .int .i64 y]).run P w = .ok (.int .i64 (max x y)) w := by
  have h2 : Builtin.max2 (.int .i64 x) (.int .i64 y) = pure (.int .i64 (max x y)) := by
    show pure (Value.int .i64 (if y > x then y else x)) = _
    congr 2
    split <;> omega
  show (List.foldlM Builtin.max2 (.int .i64 x) [.int .i64 y]).run P w = _
  rw [List.foldlM_cons, h2]
  simp [List.foldlM_nil, go_sem]
theorem rows_set {w0 w : World} {v : Value} {n k : Nat} {cs : Nat → List Value} (h0 : RowsK w0 v n k cs) (h : RowsK w v n k cs) {g : Nat} (hg : w0.heap.size ≤ g) (i : Nat) (u : Value) : RowsK (w.setCell ⟨g, i, none⟩ u) v n k cs := by
  obtain ⟨ad, cap, hv, h1, h2, hp⟩ := h0
  rcases hp with hp | ⟨b, off, rfl, hb, -⟩
  · exact ⟨ad, cap, hv, h1, h2, .inl hp⟩
  · exact RowsK.turn h (cturn_set w g i u) (fun c hc hm => by
      rw [hv] at hc
      cases hc
      have : b = g := by simpa using hm
      omega)
theorem rd_set {w0 w : World} {g : PgP} {v : PgV} (h0 : PgRd w0 g v) (h : PgRd w g v) {b : Nat} (hb : w0.heap.size ≤ b) (i : Nat) (u : Value) : PgRd (w.setCell ⟨b, i, none⟩ u) g v := ⟨rows_set h0.k h.k hb i u, rows_set h0.wi h.wi hb i u, rows_set h0.cr h.cr hb i u, rows_set h0.c h.c hb i u⟩
def mostF (hs : List Int) (i : Nat) : Int := (hs.take i).foldl max 0
theorem most_next (hs : List Int) (i : Nat) (h : i < hs.length) : mostF hs (i + 1) = max (mostF hs i) (hs.getD i 0) := by
  unfold mostF
  rw [List.take_succ_eq_append_getElem h, List.foldl_append]
  simp [List.getD, h]
theorem most_bound (m : Int) : ∀ (hs : List Int) (a : Int), a ≤ m → (∀ x, x ∈ hs → x ≤ m) → hs.foldl max a ≤ m
  | [], _, ha, _ => ha
  | x :: r, a, ha, h => most_bound m r (max a x) (by have := h x (by simp); omega) (fun y hy => h y (by simp [hy]))
theorem most_low : ∀ (hs : List Int) (a : Int), a ≤ hs.foldl max a ∧ ∀ x, x ∈ hs → x ≤ hs.foldl max a
  | [], a => ⟨Int.le_refl _, fun x hx => by cases hx⟩
  | y :: r, a => by
    obtain ⟨h1, h2⟩ := most_low r (max a y)
    show a ≤ r.foldl max (max a y) ∧ ∀ x, x ∈ y :: r → x ≤ r.foldl max (max a y)
    refine ⟨by omega, fun x hx => ?_⟩
    rcases List.mem_cons.1 hx with rfl | hx
    · omega
    · exact h2 x hx
theorem most_all {hs : List Int} {m : Int} (h0 : 0 ≤ m) (h1 : ∀ x, x ∈ hs → x ≤ m) (h2 : m ∈ hs) : mostF hs hs.length = m := by
  unfold mostF
  rw [List.take_length]
  have a := most_bound m hs 0 h0 h1
  have b := (most_low hs 0).2 m h2
  omega
structure Says (ck : PgP → Int × Int) (he : PgP → List Int × Int) (g : PgP) (hs : List Int) : Prop where
  hts : he g = (hs, 0)
  len : hs.length = g.C.length
  few : g.C.length ≤ 16384
  chk : ck g = (0, 0)
  lo : ∀ x, x ∈ hs → 0 ≤ x ∧ x ≤ g.h
  most : mostF hs hs.length = g.h
  h0 : 0 ≤ g.h
  h4 : g.h ≤ 4096
  less : 1 ≤ g.h → (ck (lowP g (g.h - 1))).2 = 41
end Go.Proofs.YtigldebdljfnbaaDoor
end

/- Package verify, plain: by the table's rows the same is said. -/
import Derived.Test.YthfnjlfhaibbeaaDoorVeB
namespace Go.Proofs.YthfnjlfhaibbeaaDoor
open Go.RowKit

def leadsB (n i a : Int) : Bool := decide (i < a) && belowB a n
def mayF (g : PgP) (n arg i a : Int) : Bool :=
  if arg = 1 then belowB a g.K.length
  else if arg = 2 then belowB a ((g.K.length : Int) - 1) && (decide (0 ≤ g.K.getD a.toNat 0) && decide (1 ≤ g.K.getD (a + 1).toNat 0))
  else if arg = 3 then belowB a g.wins.length
  else if arg = 4 then belowB a g.crons.length
  else if arg = 5 then decide (1 ≤ a) && decide (a ≤ 3)
  else if arg = 6 then leadsB n i a
  else if arg = 7 then belowB a g.loc
  else if arg = 8 then belowB (a.tdiv 16384) g.loc && leadsB n i (a.tmod 16384)
  else decide (a = 0)
def suitB (r : Rw) (h t : Int) : Bool := if r.d = 3 then decide (h = r.n1) && decide (t = r.n2) else decide (r.n1 ≤ h) && decide (r.n2 ≤ t)
def waysR (r : Rw) (i a h t : Int) : List Wy :=
  if r.d = 0 then [(i + 1, h + r.x1, t + r.x2)]
  else if r.d = 1 then [(a.tmod 16384, h + r.t1, t + r.t2)]
  else if r.d = 2 then [(a.tmod 16384, h + r.t1, t + r.t2), (i + 1, h + r.x1, t + r.x2)]
  else []
def leadR (hm : Int) (pl : List (Option St)) (x : Wy) : Option (List (Option St)) :=
  if (pl.length : Int) ≤ x.1 ∨ hm < x.2.1 ∨ 4096 < x.2.2 then none
  else match pl.getD x.1.toNat none with
    | none => some (pl.set x.1.toNat (some x.2))
    | some s => if s = x.2 then some (pl.set x.1.toNat (some x.2)) else none
def leadsR (hm : Int) : List Wy → List (Option St) → Option (List (Option St))
  | [], pl => some pl
  | x :: l, pl => (leadR hm pl x).bind (leadsR hm l)
def stepR (g : PgP) (i : Nat) (pl : List (Option St)) : Option (List (Option St)) :=
  match pl.getD i none with
  | none => none
  | some s =>
    let x := g.C.getD i in0
    match rowF x.1 with
    | none => none
    | some r => if mayF g pl.length r.a i x.2 && suitB r s.1 s.2 then leadsR g.h (waysR r i x.2 s.1 s.2) pl else none
theorem leadR_eq {hm i : Int} {pl : List (Option St)} {x : Wy} (h1 : i < x.1) (h2 : x.2.2 ≤ 4096) : leadR hm pl x = goF hm i pl x := by
  unfold leadR goF
  by_cases c : (pl.length : Int) ≤ x.1 ∨ hm < x.2.1
  · rw [if_pos (by omega), if_pos (by omega)]
  · rw [if_neg (by omega), if_neg (by omega)]
    cases e : pl.getD x.1.toNat none with
    | none => rfl
    | some s =>
      simp only
      by_cases es : s = x.2
      · rw [if_pos es, if_pos es]
        subst es
        congr 1
        have := at_of_getD e
        obtain ⟨hl, h3⟩ := List.getElem?_eq_some_iff.1 this
        rw [← h3]
        exact List.set_getElem_self hl
      · rw [if_neg es, if_neg es]
theorem leadsR_eq {hm i : Int} : ∀ (l : List Wy) (pl : List (Option St)), (∀ x, x ∈ l → i < x.1 ∧ x.2.2 ≤ 4096) → leadsR hm l pl = goesF hm i l pl
  | [], pl, _ => rfl
  | x :: l, pl, h => by
    unfold leadsR goesF
    rw [leadR_eq (h x (by simp)).1 (h x (by simp)).2]
    congr 1
    funext p
    exact leadsR_eq l p (fun y hy => h y (by simp [hy]))
theorem goF_far {hm i : Int} {pl : List (Option St)} {x : Wy} (h : leadsB pl.length i x.1 = false) (hi : 0 ≤ i) : goF hm i pl x = none := by
  unfold goF
  unfold leadsB belowB at h
  simp only [Bool.and_eq_false_iff, decide_eq_false_iff_not] at h
  rw [if_pos (by omega)]
theorem ops_of {op : Int} (h1 : 1 ≤ op) (h2 : op ≤ 33) : op = 1 ∨ op = 2 ∨ op = 3 ∨ op = 4 ∨ op = 5 ∨ op = 6 ∨ op = 7 ∨ op = 8 ∨ op = 9 ∨ op = 10 ∨ op = 11 ∨ op = 12 ∨ op = 13 ∨ op = 14 ∨ op = 15 ∨ op = 16 ∨ op = 17 ∨ op = 18 ∨ op = 19 ∨ op = 20 ∨ op = 21 ∨ op = 22 ∨ op = 23 ∨ op = 24 ∨ op = 25 ∨ op = 26 ∨ op = 27 ∨ op = 28 ∨ op = 29 ∨ op = 30 ∨ op = 31 ∨ op = 32 ∨ op = 33 := by omega
theorem rowF_out {op : Int} (h : op < 1 ∨ 33 < op) : rowF op = none := by
  unfold rowF
  rw [List.find?_eq_none]
  intro r hr
  unfold rowFit
  simp only [rwT, List.mem_cons, List.not_mem_nil, or_false] at hr
  rcases hr with rfl | rfl | rfl | rfl | rfl | rfl | rfl | rfl | rfl | rfl | rfl | rfl | rfl | rfl | rfl | rfl | rfl | rfl <;> simp <;> omega
/-- An operation without a target. -/
def PlainOp (op : Int) : Prop := ∃ r, rowF op = some r ∧ (∀ (g : PgP) (n i a : Int), mayF g n r.a i a = argF g op a) ∧ ∀ (i a h t : Int), 0 ≤ h → 0 ≤ t → suitB r h t = (waysF i op a h t).2 ∧ (suitB r h t = true → waysR r i a h t = (waysF i op a h t).1 ∧ ∀ x, x ∈ waysR r i a h t → i < x.1 ∧ x.2.2 ≤ t)
theorem plain_ops {op : Int} (h1 : 1 ≤ op) (h2 : op ≤ 33) (h3 : op ≠ 23) (h4 : op ≠ 24) (h5 : op ≠ 25) (h6 : op ≠ 26) (h7 : op ≠ 27) : PlainOp op := by
  rcases ops_of h1 h2 with rfl | rfl | rfl | rfl | rfl | rfl | rfl | rfl | rfl | rfl | rfl | rfl | rfl | rfl | rfl | rfl | rfl | rfl | rfl | rfl | rfl | rfl | rfl | rfl | rfl | rfl | rfl | rfl | rfl | rfl | rfl | rfl | rfl
  all_goals first
    | (exfalso; omega)
    | (refine ⟨_, rfl, ?_, ?_⟩
       · intro g n i a
         simp [mayF, argF]
       · intro i a h t hh ht
         by_cases c0 : h < 1
         · obtain rfl : h = 0 := by omega
           simp [suitB, waysF, needF, waysR, ht] <;> omega
         · by_cases c1 : h < 2
           · obtain rfl : h = 1 := by omega
             simp [suitB, waysF, needF, waysR, ht] <;> omega
           · have c2 : 2 ≤ h := by omega
             have c3 : 1 ≤ h := by omega
             have c4 : ¬ h = 0 := by omega
             have c5 : ¬ h = 1 := by omega
             have c6 : ¬ h < 0 := by omega
             simp [suitB, waysF, needF, waysR, ht, hh, c0, c1, c2, c3, c4, c5, c6] <;> omega)
end Go.Proofs.YthfnjlfhaibbeaaDoor

/- Programs, plain: the code of a core, by the chapter's table. -/
import Derived.Test.YtbddbnjhmdbkbaaGreatDoorCaMhY
namespace Go.Proofs.YtbddbnjhmdbkbaaGreatDoor

/-- An instruction: what it does, and its A. -/
abbrev Ins := Int × Int
def jmpB (op : Int) : Bool := op == 23 || op == 24 || op == 25 || op == 26 || op == 27
/-- An instruction of a piece that stands d instructions on. -/
def shI (d : Nat) (x : Ins) : Ins := if jmpB x.1 = true then (x.1, x.2 + d) else x
/-- b behind a. -/
def cat (a b : List Ins) : List Ins := a ++ b.map (shI a.length)
theorem shI_fst (d : Nat) (x : Ins) : (shI d x).1 = x.1 := by unfold shI; split <;> rfl
theorem shI_zero (x : Ins) : shI 0 x = x := by
  unfold shI
  split
  · simp
  · rfl
theorem shI_shI (d e : Nat) (x : Ins) : shI d (shI e x) = shI (d + e) x := by
  unfold shI
  by_cases h : jmpB x.1 = true
  · simp only [h, if_true]
    exact Prod.ext rfl (by show x.2 + (e : Int) + (d : Int) = x.2 + ((d + e : Nat) : Int); omega)
  · rw [if_neg h, if_neg h, if_neg h]
theorem shI_map (d e : Nat) (l : List Ins) : (l.map (shI e)).map (shI d) = l.map (shI (d + e)) := by
  rw [List.map_map]
  exact List.map_congr_left (fun x _ => shI_shI d e x)
theorem cat_len (a b : List Ins) : (cat a b).length = a.length + b.length := by simp [cat]
theorem cat_nil (a : List Ins) : cat a [] = a := by simp [cat]
theorem nil_cat (b : List Ins) : cat [] b = b := by
  unfold cat
  rw [List.nil_append, List.length_nil]
  conv => rhs; rw [← List.map_id b]
  exact List.map_congr_left (fun x _ => shI_zero x)
theorem cat_map (d : Nat) (a b : List Ins) : (cat a b).map (shI d) = a.map (shI d) ++ b.map (shI (d + a.length)) := by
  unfold cat
  rw [List.map_append, shI_map]
theorem cat_cat (a b c : List Ins) : cat (cat a b) c = cat a (cat b c) := by
  unfold cat
  rw [List.map_append, shI_map, List.append_assoc, List.length_append, List.length_map]
/-- The constants with n among them, and its place. -/
def numK (K : List Int) (n : Int) : List Int := if n ∈ K then K else K ++ [n]
theorem numK_at (K : List Int) (n : Int) : (numK K n)[K.idxOf n]? = some n := by
  unfold numK
  split
  · rename_i h
    have hl := List.idxOf_lt_length_of_mem h
    rw [List.getElem?_eq_getElem hl, List.getElem_idxOf hl]
  · rename_i h
    rw [List.idxOf_eq_length h]
    simp
/-- The place of a pair. -/
def findP : List Int → Int → Int → Option Nat
  | x :: y :: r, a, b => if x = a ∧ y = b then some 0 else (findP (y :: r) a b).map (· + 1)
  | _, _, _ => none
def pairK (K : List Int) (a b : Int) : List Int := match findP K a b with
  | some _ => K
  | none => if K.getLast? = some a then K ++ [b] else K ++ [a, b]
def pairAt (K : List Int) (a b : Int) : Nat := match findP K a b with
  | some i => i
  | none => if K.getLast? = some a then K.length - 1 else K.length
/-- A piece of code, made out of the constants so far: the code, and the constants behind it. -/
abbrev Mk := List Int → List Ins × List Int
def numM (n : Int) : Mk := fun K => ([(1, (K.idxOf n : Nat))], numK K n)
def insM (op a : Int) : Mk := fun K => ([(op, a)], K)
def scaM (n m : Int) : Mk := fun K => ([(11, (pairAt K n m : Nat))], pairK K n m)
/-- One piece behind another. -/
def thenM (a b : Mk) : Mk := fun K => let x := a K; let y := b x.2; (cat x.1 y.1, y.2)
/-- A condition, and its two ways. -/
def forkM (op over : Int) (y z : Mk) : Mk := fun K => let u := y K; let v := z u.2; (cat (cat (cat [(op, (u.1.length + 2 : Nat))] u.1) [(over, (1 + v.1.length : Nat))]) v.1, v.2)
/-- What leads past a piece, where it isn't asked. -/
def overM (op more : Int) (y : Mk) (e : List Ins) : Mk := fun K => let u := y K; (cat (cat [(op, more + (u.1.length + 1 + e.length : Nat))] u.1) e, u.2)
/-- All of a list, one behind another. -/
def allM : List Mk → Mk
  | [] => fun K => ([], K)
  | a :: r => thenM a (allM r)
/-- The instruction of a plain operation. -/
def plnI (op : Int) : Int := if op ≤ 6 then op - 1 else if op ≤ 12 then op - 2 else if op ≤ 24 then op - 2 else op
/-- A ladder's rungs. -/
def rungM : List (Co × Mk) → Mk
  | b :: a :: r => thenM (thenM (insM 32 0) (thenM (numM b.1.n) (insM 16 0))) (thenM (overM 24 0 (thenM (insM 33 0) a.2) []) (rungM r))
  | a :: _ => thenM (insM 33 0) a.2
  | [] => insM 33 0
/-- The code of an operation, out of its parts'. -/
def codO (c : Co) (ms : List Mk) : Mk :=
  if c.op = 1 ∨ c.op = 2 then numM c.n
  else if c.op = 7 then overM 27 (c.n * 16384) (ms.getD 0 (allM [])) [(28, c.n)]
  else if c.op = 13 then thenM (ms.getD 0 (allM [])) (scaM c.n c.m)
  else if c.op = 25 then thenM (ms.getD 0 (allM [])) (forkM 24 23 (ms.getD 1 (allM [])) (numM 0))
  else if c.op = 26 then thenM (ms.getD 0 (allM [])) (forkM 24 23 (numM 1) (ms.getD 1 (allM [])))
  else if c.op = 28 then thenM (ms.getD 0 (allM [])) (forkM 24 23 (ms.getD 1 (allM [])) (ms.getD 2 (allM [])))
  else if c.op = 27 then forkM 25 26 (ms.getD 0 (allM [])) (ms.getD 1 (allM []))
  else if c.op = 32 then thenM (ms.getD 0 (allM [])) (rungM ((c.parts.zip ms).drop 1))
  else thenM (allM ms) (insM (plnI c.op) c.n)
/-- The code of a core. -/
def codF : Co → Mk
  | ⟨k, n, m, ps⟩ => codO ⟨k, n, m, ps⟩ (ps.map codF)
theorem codF_eq (c : Co) : codF c = codO c (c.parts.map codF) := by
  cases c
  rw [codF]
/-- The code of a plan. -/
def planM : List (Co × Co) → Co → Mk
  | [], f => codF f
  | g :: r, f => thenM (thenM (codF g.1) (overM 24 0 (codF g.2) [])) (planM r f)
end Go.Proofs.YtbddbnjhmdbkbaaGreatDoor

/- Terms as trees, plain: the order of nodes, what is formed, what is a literal. -/
import Derived.Test.YtecdfnpbcabdnaaGreatDoorTrN
namespace Go.Proofs.YtecdfnpbcabdnaaGreatDoor

/-- A term. -/
structure Tm where
  kind : Int
  text : ByteArray
  n : Int
  m : Int
  pl : Int
  parts : List Tm
theorem Tm.ind {p : Tm → Prop} (h : ∀ t : Tm, (∀ x, x ∈ t.parts → p x) → p t) : ∀ t, p t
  | ⟨_, _, _, _, _, _⟩ => h _ fun x _ => Tm.ind h x
/-- The nodes in their order. -/
def pord : Tm → List Tm
  | ⟨k, s, n, m, a, ps⟩ => ⟨k, s, n, m, a, ps⟩ :: (ps.map pord).flatten
theorem pord_eq (t : Tm) : pord t = t :: (t.parts.map pord).flatten := by cases t; rw [pord]
def nodes (t : Tm) : Nat := (pord t).length
def nodesL (l : List Tm) : Nat := ((l.map pord).flatten).length
theorem nodes_eq (t : Tm) : nodes t = 1 + nodesL t.parts := by unfold nodes nodesL; rw [pord_eq t]; simp; omega
theorem nodes_pos (t : Tm) : 1 ≤ nodes t := by rw [nodes_eq]; omega
theorem nodesL_nil : nodesL [] = 0 := rfl
theorem nodesL_cons (t : Tm) (l : List Tm) : nodesL (t :: l) = nodes t + nodesL l := by simp [nodesL, nodes]
theorem nodesL_append (l k : List Tm) : nodesL (l ++ k) = nodesL l + nodesL k := by simp [nodesL]
theorem nodesL_mem {l : List Tm} {x : Tm} (h : x ∈ l) : nodes x ≤ nodesL l := by
  induction l with
  | nil => cases h
  | cons y l ih =>
    rw [nodesL_cons]
    rcases List.mem_cons.1 h with rfl | h
    · omega
    · have := ih h; omega
theorem nodes_part {t x : Tm} (h : x ∈ t.parts) : nodes x < nodes t := by
  have := nodesL_mem h; rw [nodes_eq t]; omega
theorem length_nodesL (l : List Tm) : l.length ≤ nodesL l := by
  induction l with
  | nil => simp
  | cons y l ih => rw [nodesL_cons]; have := nodes_pos y; simp only [List.length_cons]; omega

/-! ### What is formed -/
def spanB (n : Int) : Bool := decide (1 ≤ n) && decide (n ≤ 604800)
def bareB (s : ByteArray) (n m : Int) : Bool := decide (s.toList = []) && (decide (n = 0) && decide (m = 0))
def plainB (k : Int) (s : ByteArray) (n m lo hi : Int) : Bool := decide (lo ≤ k) && (decide (k ≤ hi) && bareB s n m)
def leafB (k : Int) (s : ByteArray) (n m : Int) : Bool :=
  if k = 1 then decide (0 ≤ n) && (decide (m = 0) && txt brk s)
  else if k = 2 then decide (n = 0) && (decide (m = 0) && isN s)
  else if k = 6 then decide (n = 0) && (decide (m = 0) && txt quo s)
  else if 7 ≤ k ∧ k ≤ 11 then decide (m = 0) && (spanB n && isN s)
  else if k = 12 then decide (0 ≤ m) && (spanB n && isN s)
  else plainB k s n m 3 5
/-- The node itself, as the head of an expression. -/
def headB (k : Int) (s : ByteArray) (n m : Int) (c : Nat) : Bool :=
  if c = 0 then leafB k s n m
  else if c = 1 then plainB k s n m 13 17
  else if c = 2 then plainB k s n m 18 31
  else if c = 3 then plainB k s n m 32 32
  else false
def formedB : Tm → Bool
  | ⟨k, s, n, m, _, ps⟩ => headB k s n m ps.length && (ps.map formedB).all id
theorem formedB_eq (t : Tm) : formedB t = (headB t.kind t.text t.n t.m t.parts.length && t.parts.all formedB) := by
  cases t; rw [formedB]; simp [List.all_map]
/-- A literal: a number, or minus one. -/
def numB (t : Tm) : Bool := decide (t.kind = 1) && (decide (t.parts.length = 0) && leafB t.kind t.text t.n t.m)
def negB (t : Tm) : Bool := plainB t.kind t.text t.n t.m 13 13 && decide (t.parts.length = 1)
def litB (t : Tm) : Bool := numB t || (negB t && t.parts.all numB)
/-- The node itself, as the head of an action. -/
def doB (k : Int) (s : ByteArray) (n m : Int) (c : Nat) : Bool :=
  if c = 0 then plainB k s n m 33 33
  else if c = 1 then plainB k s n m 34 35
  else decide (c % 2 = 0) && plainB k s n m 36 36
def actionB : Tm → Bool
  | ⟨k, s, n, m, _, ps⟩ => doB k s n m ps.length && ((List.range ps.length).map fun i =>
      if h : i < ps.length then
        if i = 0 then formedB ps[i] else if i % 2 = 1 ∧ i + 1 < ps.length then litB ps[i]
        else (have : SizeOf.sizeOf ps[i] < SizeOf.sizeOf ps := List.sizeOf_lt_of_mem (List.getElem_mem h); actionB ps[i])
      else true).all id
/-- What part number i of an action must be. -/
def partB (ps : List Tm) (i : Nat) : Bool :=
  match ps[i]? with
  | some x => if i = 0 then formedB x else if i % 2 = 1 ∧ i + 1 < ps.length then litB x else actionB x
  | none => true
theorem actionB_eq (t : Tm) : actionB t = (doB t.kind t.text t.n t.m t.parts.length && (List.range t.parts.length).all (partB t.parts)) := by
  cases t with
  | mk k s n m a ps =>
    rw [actionB, List.all_map]
    congr 1
    refine Bool.eq_iff_iff.2 ?_
    simp only [List.all_eq_true, Function.comp_def, id_eq]
    refine forall_congr' fun i => forall_congr' fun hi => ?_
    have hi' : i < ps.length := by simpa using hi
    simp only [dif_pos hi', partB, List.getElem?_eq_getElem hi']
/-- What element number j of a ladder's pairs must be. -/
def altB (l : List Tm) (j : Nat) : Bool :=
  match l[j]? with
  | some x => if j % 2 = 0 then litB x else actionB x
  | none => true
def pairsB (l : List Tm) : Bool := decide (l.length % 2 = 0) && (List.range l.length).all (altB l)
theorem action_0 {t : Tm} (hp : t.parts = []) : actionB t = plainB t.kind t.text t.n t.m 33 33 := by
  rw [actionB_eq, hp]; simp [doB]
theorem action_1 {t x : Tm} (hp : t.parts = [x]) : actionB t = (plainB t.kind t.text t.n t.m 34 35 && formedB x) := by
  rw [actionB_eq, hp]; simp [doB, partB]
theorem action_2 {t x y : Tm} (hp : t.parts = [x, y]) : actionB t = (plainB t.kind t.text t.n t.m 36 36 && (formedB x && actionB y)) := by
  rw [actionB_eq, hp]; simp [doB, partB, List.range_succ]
theorem action_3 {t x y u : Tm} (hp : t.parts = [x, y, u]) : actionB t = false := by
  rw [actionB_eq, hp]; simp [doB]
theorem action_4 {t x y : Tm} {l : List Tm} (hp : t.parts = x :: (l ++ [y])) (h2 : 2 ≤ l.length) : actionB t = (plainB t.kind t.text t.n t.m 36 36 && (formedB x && (pairsB l && actionB y))) := by
  have hlen : t.parts.length = l.length + 2 := by rw [hp]; simp
  rw [actionB_eq, hlen, doB, if_neg (by omega), if_neg (by omega), pairsB]
  by_cases he : l.length % 2 = 0
  · rw [decide_eq_true (by omega : (l.length + 2) % 2 = 0), decide_eq_true he, Bool.true_and, Bool.true_and]
    congr 1
    have g : ∀ j, j < l.length → partB t.parts (j + 1) = altB l j := fun j hj => by
      have e : t.parts[j + 1]? = l[j]? := by rw [hp, List.getElem?_cons_succ, List.getElem?_append_left hj]
      unfold partB altB
      rw [e, List.getElem?_eq_getElem hj, hlen]
      simp only [if_neg (by omega : ¬ j + 1 = 0)]
      by_cases hj2 : j % 2 = 0
      · rw [if_pos ⟨by omega, by omega⟩, if_pos hj2]
      · rw [if_neg (by omega), if_neg hj2]
    have g0 : partB t.parts 0 = formedB x := by unfold partB; rw [hp]; rfl
    have g1 : partB t.parts (l.length + 1) = actionB y := by
      unfold partB
      have e : t.parts[l.length + 1]? = some y := by rw [hp, List.getElem?_cons_succ]; simp
      rw [e]
      simp only [if_neg (by omega : ¬ l.length + 1 = 0)]
      rw [if_neg (by rw [hlen]; omega)]
    refine Bool.eq_iff_iff.2 ?_
    simp only [List.all_eq_true, Bool.and_eq_true, List.mem_range]
    constructor
    · intro h
      exact ⟨by rw [← g0]; exact h 0 (by omega), fun j hj => by rw [← g j hj]; exact h (j + 1) (by omega), by rw [← g1]; exact h _ (by omega)⟩
    · rintro ⟨h0, h1, h2'⟩ i hi
      by_cases i0 : i = 0
      · rw [i0, g0]; exact h0
      · by_cases i1 : i = l.length + 1
        · rw [i1, g1]; exact h2'
        · obtain ⟨j, rfl⟩ : ∃ j, i = j + 1 := ⟨i - 1, by omega⟩
          rw [g j (by omega)]
          exact h1 j (by omega)
  · rw [decide_eq_false (by omega : ¬ (l.length + 2) % 2 = 0), decide_eq_false he]
    simp
/-- A literal's number, and its sign. -/
def litR (t : Tm) : Option (Tm × Int) :=
  if numB t = true then some (t, 1)
  else match t.parts with
    | [x] => if negB t = true ∧ numB x = true then some (x, -1) else none
    | _ => none
theorem litR_some (t : Tm) : (litR t).isSome = litB t := by
  unfold litR litB
  by_cases h : numB t = true
  · rw [if_pos h, h]; rfl
  · have h' : numB t = false := by simpa using h
    rw [if_neg h, h', Bool.false_or]
    match hp : t.parts with
    | [x] =>
      simp only [List.all_cons, List.all_nil, Bool.and_true]
      by_cases hn : negB t = true ∧ numB x = true
      · rw [if_pos hn, hn.1, hn.2]; rfl
      · rw [if_neg hn]
        cases h1 : negB t <;> cases h2 : numB x <;> simp_all
    | [] => simp [negB, hp]
    | _ :: _ :: _ => simp [negB, hp]
end Go.Proofs.YtecdfnpbcabdnaaGreatDoor

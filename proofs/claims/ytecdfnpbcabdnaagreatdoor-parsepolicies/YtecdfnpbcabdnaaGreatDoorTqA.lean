/- Items and policies, plain: what is a formed item, a formed policy; the document's policy is the same. -/
import Derived.Test.YtecdfnpbcabdnaaGreatDoorTrP
namespace Go.Proofs.YtecdfnpbcabdnaaGreatDoor

/-- An item. -/
structure It where
  kind : Int
  name : ByteArray
  unit : ByteArray
  a : Int
  b : Int
  c : Int
  x : Tm
  y : Tm
  pl : Int
def nilM : Tm := ⟨0, ⟨#[]⟩, 0, 0, 0, []⟩
def voidB (t : Tm) : Bool := decide (t.kind = 0) && (decide (t.text.toList = []) && (decide (t.n = 0) && (decide (t.m = 0) && (decide (t.pl = 0) && decide (t.parts.length = 0)))))
def restB (nm un : ByteArray) (a b c : Int) (x y : Tm) : Bool := decide (nm.toList = []) && (decide (un.toList = []) && (decide (a = 0) && (decide (b = 0) && (decide (c = 0) && (voidB x && voidB y)))))
def noB : ByteArray := ⟨#[]⟩
def itemB (i : It) : Bool :=
  if i.kind = 1 then (isN i.name && txt brk i.unit) && restB noB noB i.a i.b i.c i.x i.y
  else if i.kind = 2 then (decide (0 ≤ i.a) && (decide (0 ≤ i.b) && decide (0 ≤ i.c))) && restB i.name i.unit 0 0 0 i.x i.y
  else if i.kind = 3 ∨ i.kind = 4 then spanB i.a && restB i.name i.unit 0 i.b i.c i.x i.y
  else if i.kind = 5 then (isN i.name && formedB i.x) && restB noB i.unit i.a i.b i.c nilM i.y
  else if i.kind = 6 then (formedB i.x && actionB i.y) && restB i.name i.unit i.a i.b i.c nilM nilM
  else if i.kind = 7 then actionB i.y && restB i.name i.unit i.a i.b i.c i.x nilM
  else false
def endsB : List It → Bool
  | [] => false
  | x :: r => if x.kind = 7 then r.isEmpty else endsB r
def costT (t : Tm) : Nat := if voidB t = true then 0 else nodes t
def cost (i : It) : Nat := costT i.x + costT i.y
def fewB : List It → Int → Bool
  | [], _ => true
  | x :: r, left => decide (0 ≤ left - (cost x : Nat)) && fewB r (left - (cost x : Nat))
def polB (nm : ByteArray) (l : List It) : Bool := isN nm && (endsB l && (fewB l 16384 && l.all itemB))
def rcost (i : It) : Nat := (if i.kind = 5 ∨ i.kind = 6 then nodes i.x else 0) + (if i.kind = 6 ∨ i.kind = 7 then nodes i.y else 0)
def rPolL : List It → Nat → Bool
  | [], _ => true
  | x :: r, s => (itemB x && (decide (x.kind = 7) == r.isEmpty)) && (decide (s + rcost x ≤ 16384) && rPolL r (s + rcost x))
def rpolB (nm : ByteArray) (l : List It) : Bool := !l.isEmpty && (isN nm && rPolL l 0)
theorem leafB_kind {k : Int} {s : ByteArray} {n m : Int} (h : leafB k s n m = true) : 1 ≤ k := by
  unfold leafB at h
  split at h
  · omega
  split at h
  · omega
  split at h
  · omega
  split at h
  · omega
  split at h
  · omega
  unfold plainB at h
  simp only [Bool.and_eq_true, decide_eq_true_eq] at h
  omega
theorem formed_kind {t : Tm} (h : formedB t = true) : 1 ≤ t.kind := by
  rw [formedB_eq, Bool.and_eq_true] at h
  have h1 := h.1
  unfold headB at h1
  split at h1
  · exact leafB_kind h1
  unfold plainB at h1
  split at h1
  · simp only [Bool.and_eq_true, decide_eq_true_eq] at h1; omega
  split at h1
  · simp only [Bool.and_eq_true, decide_eq_true_eq] at h1; omega
  split at h1
  · simp only [Bool.and_eq_true, decide_eq_true_eq] at h1; omega
  · cases h1
theorem formed_void {t : Tm} (h : formedB t = true) : voidB t = false := by
  have := formed_kind h
  unfold voidB
  rw [decide_eq_false (by omega)]
  rfl
theorem action_void {t : Tm} (h : actionB t = true) : voidB t = false := by
  have hk : t.kind ≠ 0 := fun hk => by
    rw [actionB_eq, Bool.and_eq_true] at h
    have h1 := h.1
    unfold doB plainB at h1
    rw [hk] at h1
    revert h1
    simp
  unfold voidB
  rw [decide_eq_false hk]
  rfl
theorem rest_xy {nm un : ByteArray} {a b c : Int} {x y : Tm} (h : restB nm un a b c x y = true) : voidB x = true ∧ voidB y = true := by
  unfold restB at h
  simp only [Bool.and_eq_true] at h
  exact ⟨h.2.2.2.2.2.1, h.2.2.2.2.2.2⟩
theorem cost_item {i : It} (h : itemB i = true) : cost i = rcost i := by
  unfold itemB at h
  unfold cost rcost costT
  split at h
  · rename_i hk
    rw [Bool.and_eq_true] at h
    obtain ⟨h1, h2⟩ := rest_xy h.2
    simp [h1, h2, hk]
  split at h
  · rename_i hk
    rw [Bool.and_eq_true] at h
    obtain ⟨h1, h2⟩ := rest_xy h.2
    simp [h1, h2, hk]
  split at h
  · rename_i hk
    rw [Bool.and_eq_true] at h
    obtain ⟨h1, h2⟩ := rest_xy h.2
    rcases hk with hk | hk <;> simp [h1, h2, hk]
  split at h
  · rename_i hk
    rw [Bool.and_eq_true, Bool.and_eq_true] at h
    obtain ⟨_, h2⟩ := rest_xy h.2
    simp [formed_void h.1.2, h2, hk]
  split at h
  · rename_i hk
    rw [Bool.and_eq_true, Bool.and_eq_true] at h
    simp [formed_void h.1.1, action_void h.1.2, hk]
  split at h
  · rename_i hk
    rw [Bool.and_eq_true] at h
    obtain ⟨h1, _⟩ := rest_xy h.2
    simp [action_void h.1, h1, hk]
  · cases h
theorem pol_list : ∀ (l : List It) (s : Nat) (left : Int), left = 16384 - (s : Int) → (endsB l && (fewB l left && l.all itemB)) = (!l.isEmpty && rPolL l s)
  | [], s, left, _ => rfl
  | x :: r, s, left, hl => by
    by_cases hi : itemB x = true
    · have hc := cost_item hi
      have hd : decide (0 ≤ left - (cost x : Nat)) = decide (s + rcost x ≤ 16384) := decide_eq_decide.2 (by rw [hc]; omega)
      have ih := pol_list r (s + rcost x) (left - (cost x : Nat)) (by rw [hc]; omega)
      simp only [endsB, fewB, rPolL, List.all_cons, List.isEmpty_cons, hi, hd]
      by_cases hk : x.kind = 7
      · cases r with
        | nil => simp [hk, fewB, rPolL]
        | cons y r => simp [hk]
      · cases r with
        | nil => simp [hk, endsB]
        | cons y r =>
          simp only [hk, if_false, decide_false, List.isEmpty_cons, Bool.not_false, Bool.true_and, beq_self_eq_true] at ih ⊢
          rw [← ih]
          cases decide (s + rcost x ≤ 16384) <;> simp
    · have hi' : itemB x = false := by simpa using hi
      simp only [rPolL, List.all_cons, hi']
      simp
theorem pol_same (nm : ByteArray) (l : List It) : polB nm l = rpolB nm l := by
  unfold polB rpolB
  rw [pol_list l 0 16384 (by simp)]
  cases l.isEmpty <;> cases isN nm <;> simp
end Go.Proofs.YtecdfnpbcabdnaaGreatDoor

/- Cores as trees, plain: the order of nodes. -/
import Derived.Test.YtkhdcojgcnomgaaGreatDoorBoxes
namespace Go.Proofs.YtkhdcojgcnomgaaGreatDoor

/-- A core. -/
structure Co where
  op : Int
  n : Int
  m : Int
  parts : List Co
theorem Co.ind {p : Co → Prop} (h : ∀ t : Co, (∀ x, x ∈ t.parts → p x) → p t) : ∀ t, p t
  | ⟨_, _, _, _⟩ => h _ fun x _ => Co.ind h x
/-- The nodes in their order. -/
def cpord : Co → List Co
  | ⟨k, n, m, ps⟩ => ⟨k, n, m, ps⟩ :: (ps.map cpord).flatten
theorem cpord_eq (t : Co) : cpord t = t :: (t.parts.map cpord).flatten := by cases t; rw [cpord]
def cnodes (t : Co) : Nat := (cpord t).length
def cnodesL (l : List Co) : Nat := ((l.map cpord).flatten).length
theorem cnodes_eq (t : Co) : cnodes t = 1 + cnodesL t.parts := by unfold cnodes cnodesL; rw [cpord_eq t]; simp; omega
theorem cnodes_pos (t : Co) : 1 ≤ cnodes t := by rw [cnodes_eq]; omega
theorem cnodesL_nil : cnodesL [] = 0 := rfl
theorem cnodesL_cons (t : Co) (l : List Co) : cnodesL (t :: l) = cnodes t + cnodesL l := by simp [cnodesL, cnodes]
theorem cnodesL_append (l k : List Co) : cnodesL (l ++ k) = cnodesL l + cnodesL k := by simp [cnodesL]
theorem cnodesL_mem {l : List Co} {x : Co} (h : x ∈ l) : cnodes x ≤ cnodesL l := by
  induction l with
  | nil => cases h
  | cons y l ih =>
    rw [cnodesL_cons]
    rcases List.mem_cons.1 h with rfl | h
    · omega
    · have := ih h; omega
theorem cnodes_part {t x : Co} (h : x ∈ t.parts) : cnodes x < cnodes t := by
  have := cnodesL_mem h; rw [cnodes_eq t]; omega
theorem length_cnodesL (l : List Co) : l.length ≤ cnodesL l := by
  induction l with
  | nil => simp
  | cons y l ih => rw [cnodesL_cons]; have := cnodes_pos y; simp only [List.length_cons]; omega
theorem Co.same {a b : Co} : a = b ↔ a.op = b.op ∧ a.n = b.n ∧ a.m = b.m ∧ a.parts = b.parts := by
  cases a; cases b; simp
/-- A truth that says whether they are the same. -/
theorem csame_ex (a b : Co) : ∃ R : Bool, (R = true ↔ a = b) := by
  rcases Classical.em (a = b) with h | h
  · exact ⟨true, ⟨fun _ => h, fun _ => rfl⟩⟩
  · exact ⟨false, ⟨fun hh => absurd hh (by simp), fun hh => absurd hh h⟩⟩
theorem bfalse {R : Bool} {p : Prop} (h : R = true ↔ p) (hn : ¬ p) : R = false := by
  cases R with
  | false => rfl
  | true => exact absurd (h.1 rfl) hn
theorem btrue {R : Bool} {p : Prop} (h : R = true ↔ p) (hp : p) : R = true := h.2 hp
end Go.Proofs.YtkhdcojgcnomgaaGreatDoor

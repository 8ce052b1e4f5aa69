/- Two trees that are the same: plain. -/
import Derived.Test.YtbhmffgmbabkkaaGreatDoorMgU
namespace Go.Proofs.YtbhmffgmbabkkaaGreatDoor
open Go.RowKit

def hdEq (a b : Tm) : Bool := decide (a.kind = b.kind) && (decide (a.text.toList = b.text.toList) && (decide (a.n = b.n) && decide (a.m = b.m)))
def sameB : Tm → Tm → Bool
  | ⟨k, s, n, m, p, ps⟩, b => hdEq ⟨k, s, n, m, p, ps⟩ b && (decide (ps.length = b.parts.length) && ((List.range ps.length).map fun i =>
      if h : i < ps.length then
        match b.parts[i]? with
        | some y => (have : SizeOf.sizeOf ps[i] < SizeOf.sizeOf ps := List.sizeOf_lt_of_mem (List.getElem_mem h); sameB ps[i] y)
        | none => true
      else true).all id)
def samePt (l k : List Tm) (i : Nat) : Bool := match l[i]?, k[i]? with
  | some x, some y => sameB x y
  | _, _ => true
def sameL (l k : List Tm) : Bool := decide (l.length = k.length) && (List.range l.length).all (samePt l k)
theorem sameB_eq (a b : Tm) : sameB a b = (hdEq a b && sameL a.parts b.parts) := by
  cases a with
  | mk k s n m p ps =>
    rw [sameB, sameL, List.all_map]
    congr 2
    refine Bool.eq_iff_iff.2 ?_
    simp only [List.all_eq_true, Function.comp_def, id_eq]
    refine forall_congr' fun i => forall_congr' fun hi => ?_
    have hi' : i < ps.length := by simpa using hi
    simp only [dif_pos hi', samePt, List.getElem?_eq_getElem hi']
    cases b.parts[i]? <;> rfl
theorem samePt_at {l k : List Tm} {i : Nat} (h1 : i < l.length) (h2 : i < k.length) : samePt l k i = sameB l[i] k[i] := by
  unfold samePt; rw [List.getElem?_eq_getElem h1, List.getElem?_eq_getElem h2]
theorem all_false' {n j : Nat} {f : Nat → Bool} (hj : j < n) (hf : f j = false) : (List.range n).all f = false := by
  rw [List.all_eq_false]
  exact ⟨j, List.mem_range.2 hj, by rw [hf]; decide⟩
theorem all_step' {j : Nat} {f : Nat → Bool} (h : (List.range j).all f = true) (hf : f j = true) : (List.range (j + 1)).all f = true := by
  rw [List.range_succ, List.all_append, h]; simp [hf]
theorem below_drewN {B : Nat} {w a : World} (h : Below B w a) (k : Nat) : Below B w (a.drewN k) := ⟨h.os, h.tape, h.output, h.size, h.block⟩
end Go.Proofs.YtbhmffgmbabkkaaGreatDoor

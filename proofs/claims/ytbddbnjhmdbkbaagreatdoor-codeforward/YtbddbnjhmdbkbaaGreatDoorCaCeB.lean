/- The law's few. -/
import Derived.Test.YtbddbnjhmdbkbaaGreatDoorCaMjB
import Derived.Test.YtbddbnjhmdbkbaaGreatDoorCaMhN
namespace Go.Proofs.YtbddbnjhmdbkbaaGreatDoor
open Go.RowKit

/-- How many nodes are counted. -/
def fewF : List Co → Nat → Nat
  | [], n => n
  | c :: r, n => if n ≤ 4096 then fewF r (n + min (cnodes c) 4097) else n
theorem fewF_big {n : Nat} (h : ¬ n ≤ 4096) : ∀ l : List Co, fewF l n = n
  | [] => rfl
  | c :: r => by rw [fewF, if_neg h]
theorem fewF_go {l : List Co} {k n : Nat} (hk : k < l.length) (hn : n ≤ 4096) : fewF (l.drop k) n = fewF (l.drop (k + 1)) (n + min (cnodes l[k]) 4097) := by
  rw [List.drop_eq_getElem_cons hk, fewF, if_pos hn]
def fewL (p : PlP) : Bool := decide (fewF (coresP p) 0 ≤ 8192)
end Go.Proofs.YtbddbnjhmdbkbaaGreatDoor

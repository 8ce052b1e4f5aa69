import Derived.Test.YtigldebdljfnbaaDoorNaD
import Derived.Test.YtigldebdljfnbaaDoorMgP
namespace Go.Proofs.YtigldebdljfnbaaDoor
open Go.RowKit


theorem Went.size {bb : Nat} {F : List Nat} {w w' : World} {C : List Ins} {K : List Int} (h : Went bb F w C K w') : w.heap.size ≤ w'.heap.size := by
  obtain ⟨_, _, _, t, _⟩ := h
  exact t.size


def gN (l : List (Co × Co)) : Nat := ((l.map gord).flatten).length
theorem gN_cons (g : Co × Co) (r : List (Co × Co)) : gN (g :: r) = cnodes g.1 + cnodes g.2 + gN r := by
  unfold gN gord cnodes
  simp only [List.map_cons, List.flatten_cons, List.length_append]
end Go.Proofs.YtigldebdljfnbaaDoor

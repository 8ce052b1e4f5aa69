/- A region that draws its order, whose callees only make new blocks: one walk, in the order of the text. -/
import Derived.Test.YthfnjlfhaibbeaaDoorCoZ
import Derived.BigQuiet
namespace Go.Proofs.YthfnjlfhaibbeaaDoor
open Go.RowKit

/-- The worlds in which all that lay in w0 lies on, told by a function. -/
theorem calm (w0 : World) : ∃ f : World → World, (∀ n, Below w0.heap.size w0 (f n)) ∧ (∀ W, Below w0.heap.size w0 W → ∃ n, W = f n) := by
  classical
  refine ⟨fun n => if Below w0.heap.size w0 n then n else w0, fun n => ?_, fun W h => ⟨W, (if_pos h).symm⟩⟩
  show Below w0.heap.size w0 (if Below w0.heap.size w0 n then n else w0)
  by_cases h : Below w0.heap.size w0 n
  · rw [if_pos h]; exact h
  · rw [if_neg h]; exact Below.refl _ _
theorem wp_region_calm {P : Program} {id : Nat} {Q : Exit → Act → World → Prop} {a : Act} {w : World} {l : List Oper} (f : World → World) (hm : P.follows .mixedOrders = true) (hB : Region.lexB .any l.toArray = true) (hC : ∃ n, w.drew = f n)
    (h : wpQuiet P l.toArray (fun w' => ∃ n, w' = f n) (fun a' => ∀ w', (∃ n, w' = f n) → Q .normal a' w') l a) : (Code.region id l.toArray true).wp P Q a w :=
  wp_region_quiet (C := fun w' => ∃ n, w' = f n) hm hB hC (by simpa using h)
end Go.Proofs.YthfnjlfhaibbeaaDoor

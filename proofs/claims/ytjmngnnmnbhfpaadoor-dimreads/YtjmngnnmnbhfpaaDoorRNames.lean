/- The document's table of names, and the functions that read letters and digits (package capstanref02). -/
import Derived.Test.YtjmngnnmnbhfpaaDoorReadM
namespace Go.Proofs.YtjmngnnmnbhfpaaDoor
open Go.RowKit

/-- The document's table: the name, the exponents, the base unit's place. -/
def rtab : List (List UInt8 × P3 × Int) := [
  ([111, 110, 101], ⟨0, 0, 0⟩, -1),
  ([112, 99, 116], ⟨-2, 0, -2⟩, -1),
  ([115], ⟨0, 0, 0⟩, 0),
  ([109, 115], ⟨-3, 0, -3⟩, 0),
  ([109, 105, 110], ⟨2, 1, 1⟩, 0),
  ([104], ⟨4, 2, 2⟩, 0),
  ([100], ⟨7, 3, 2⟩, 0),
  ([114, 101, 113], ⟨0, 0, 0⟩, 1),
  ([107, 114, 101, 113], ⟨3, 0, 3⟩, 1),
  ([66], ⟨0, 0, 0⟩, 2),
  ([107, 66], ⟨3, 0, 3⟩, 2),
  ([77, 66], ⟨6, 0, 6⟩, 2),
  ([75, 105, 66], ⟨10, 0, 0⟩, 2),
  ([77, 105, 66], ⟨20, 0, 0⟩, 2),
  ([71, 105, 66], ⟨30, 0, 0⟩, 2),
  ([114, 101, 112], ⟨0, 0, 0⟩, 3),
  ([99, 111, 114, 101], ⟨0, 0, 0⟩, 4),
  ([109, 99, 111, 114, 101], ⟨-3, 0, -3⟩, 4)]
def rRow (k : Nat) : List UInt8 × P3 × Int := rtab.getD k ([], ⟨0, 0, 0⟩, -1)
def rCells (r : List UInt8 × P3 × Int) : List Value := [.string ⟨r.1.toArray⟩, .int .i64 r.2.1.a, .int .i64 r.2.1.b, .int .i64 r.2.1.c, .int .i64 r.2.2]
def rAll : List Value := rtab.flatMap rCells
theorem rAll_name (k : Nat) (h : k < 18) : rAll[5 * k]? = some (.string (nameS k)) := by
  rcases (show k = 0 ∨ k = 1 ∨ k = 2 ∨ k = 3 ∨ k = 4 ∨ k = 5 ∨ k = 6 ∨ k = 7 ∨ k = 8 ∨ k = 9 ∨ k = 10 ∨ k = 11 ∨ k = 12 ∨ k = 13 ∨ k = 14 ∨ k = 15 ∨ k = 16 ∨ k = 17 by omega) with rfl | rfl | rfl | rfl | rfl | rfl | rfl | rfl | rfl | rfl | rfl | rfl | rfl | rfl | rfl | rfl | rfl | rfl <;> rfl
theorem rAll_at (k j : Nat) (h : k < 18) (hj : j < 5) : rAll[5 * k + j]? = (rCells (rRow k))[j]? := by
  rcases (show k = 0 ∨ k = 1 ∨ k = 2 ∨ k = 3 ∨ k = 4 ∨ k = 5 ∨ k = 6 ∨ k = 7 ∨ k = 8 ∨ k = 9 ∨ k = 10 ∨ k = 11 ∨ k = 12 ∨ k = 13 ∨ k = 14 ∨ k = 15 ∨ k = 16 ∨ k = 17 by omega) with rfl | rfl | rfl | rfl | rfl | rfl | rfl | rfl | rfl | rfl | rfl | rfl | rfl | rfl | rfl | rfl | rfl | rfl <;> rcases (show j = 0 ∨ j = 1 ∨ j = 2 ∨ j = 3 ∨ j = 4 by omega) with rfl | rfl | rfl | rfl | rfl <;> rfl
set_option maxHeartbeats 4000000 in
set_option maxRecDepth 100000 in
theorem Names_any (w : World) : Calls Tryd.prog 23 #[] w fun e w' => e = .returned (.slice (some ⟨w.heap.size, 0, none⟩) 18 18) ∧ w' = w.alloc (.cells rAll.toArray 53) := by
  go_enter Tryd.func23, Tryd.ntmps23
  go_wp2_with fail
  go_ret
  exact ⟨rfl, rfl⟩
/-- The place of a name in the table. -/
def findK (l : List UInt8) : Option Nat := tab.findIdx? fun r => r.1 == l
end Go.Proofs.YtjmngnnmnbhfpaaDoor

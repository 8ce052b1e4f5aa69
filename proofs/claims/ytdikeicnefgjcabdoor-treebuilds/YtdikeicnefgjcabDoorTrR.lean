/- The document's Text, Arity, own. -/
import Derived.Test.YtdikeicnefgjcabDoorTrB
import Derived.Test.YtdikeicnefgjcabDoorTrC
namespace Go.Proofs.YtdikeicnefgjcabDoor
open Go.RowKit Go.Lib

def chs (b : Bool) : List UInt8 := if b then brk else quo
theorem nin_brk (r : Nat) : nin brk r = (!(decide (r = 91)) && (!(decide (r = 93)) && (!(decide (r = 34)) && !(decide (r = 10))))) := by
  simp only [nin, brk, List.any_cons, List.any_nil, Bool.or_false, Bool.not_or]
  congr 1
  · rw [Bool.eq_iff_iff]; simp; omega
  congr 1
  · rw [Bool.eq_iff_iff]; simp; omega
  congr 1
  · rw [Bool.eq_iff_iff]; simp; omega
  · rw [Bool.eq_iff_iff]; simp; omega
theorem nin_quo (r : Nat) : nin quo r = (!(decide (r = 34)) && !(decide (r = 10))) := by
  simp only [nin, quo, List.any_cons, List.any_nil, Bool.or_false, Bool.not_or]
  congr 1
  · rw [Bool.eq_iff_iff]; simp; omega
  · rw [Bool.eq_iff_iff]; simp; omega
/-- How many parts an expression's kind has. -/
def arI (k : Int) : Nat := if k ≤ 12 then 0 else if k ≤ 17 then 1 else if k ≤ 31 then 2 else 3
/-- What own answers. -/
def ownB (k : Int) (s : ByteArray) (n m : Int) : Bool :=
  if k = 1 then decide (0 ≤ n) && (decide (m = 0) && txt brk s)
  else if k = 2 then decide (n = 0) && (decide (m = 0) && isN s)
  else if k = 6 then decide (n = 0) && (decide (m = 0) && txt quo s)
  else if 7 ≤ k ∧ k ≤ 11 then decide (m = 0) && (spanB n && isN s)
  else if k = 12 then decide (0 ≤ m) && (spanB n && isN s)
  else bareB s n m
end Go.Proofs.YtdikeicnefgjcabDoor

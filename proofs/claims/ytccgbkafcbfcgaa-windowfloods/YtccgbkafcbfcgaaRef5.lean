/- The document's Add, Sub, Neg and Abs (package capstanref01): the exact number, held. -/
import Derived.Test.YtccgbkafcbfcgaaRef4
namespace Go.Proofs.Ytccgbkafcbfcgaa
open Go.RowKit

theorem below_on {w w1 w2 : World} (h : Below w.heap.size w w1) (k : Below w1.heap.size w1 w2) : Below w.heap.size w w2 := h.trans (k.mono h.size)
theorem sg_abs {neg : Bool} {l : List Int} {n : Int} (h : n = sg neg (val l)) (hd : Dgs l) : val l = n.natAbs := by
  have := (val_bd l hd).1
  cases neg
  · have h' : n = val l := h; omega
  · have h' : n = -val l := h; omega
theorem BigV.len {w : World} {neg : Bool} {s : Value} {l : List Int} {n : Int} (h : BigV w neg s l n) (k : Nat) (hn : (n.natAbs : Int) < pw k) : l.length ≤ k := len_le l h.dg h.tr k (by rw [sg_abs h.num h.dg]; exact hn)
theorem BigV.len4 {w : World} {neg : Bool} {s : Value} {l : List Int} {n : Int} (h : BigV w neg s l n) (h0 : -18446744073709551616 < n) (h1 : n < 18446744073709551616) : l.length ≤ 500 := by
  have := h.len 4 (by rw [pw4]; omega)
  omega

end Go.Proofs.Ytccgbkafcbfcgaa

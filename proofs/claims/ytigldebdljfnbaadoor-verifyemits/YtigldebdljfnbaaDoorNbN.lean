import Derived.Test.YtigldebdljfnbaaDoorNaF
import Derived.Test.YtigldebdljfnbaaDoorMgP
import Derived.Test.YtigldebdljfnbaaDoorNaE
namespace Go.Proofs.YtigldebdljfnbaaDoor
open Go.RowKit



def hG : List (Co × Co) → Nat
  | [] => 0
  | g :: r => max (max (hgtF g.1) (hgtF g.2)) (hG r)
theorem hG_snoc (g : Co × Co) : ∀ l, hG (l ++ [g]) = max (hG l) (max (hgtF g.1) (hgtF g.2))
  | [] => by simp [hG]
  | x :: r => by rw [List.cons_append, hG, hG, hG_snoc g r]; omega
theorem hG_le : ∀ l : List (Co × Co), hG l ≤ 3 * gN l
  | [] => by simp [hG]
  | g :: r => by
    have h1 := hgt_le g.1
    have h2 := hgt_le g.2
    have h3 := hG_le r
    rw [hG, gN_cons]
    omega
def plHgt (p : PlP) : Nat := max (hgtF p.fin) (hG p.gs)
end Go.Proofs.YtigldebdljfnbaaDoor

/- Package core: makes, ofOne, ofTwo; rows. -/
import Derived.Test.YtigldebdljfnbaaDoorMgB
import Derived.Deep.RegionHeld3
namespace Go.Proofs.YtigldebdljfnbaaDoor
open Go.RowKit

def mkT : List (Option (Int × List Int)) := [none, some (1, []), some (2, []), some (1, []), some (1, []), some (2, []), none, none, some (1, [1]), some (2, [2]), some (1, [1]), some (1, [1]), some (1, [1]), some (1, [1]), some (1, [1, 1]), some (1, [1, 1]), some (1, [1, 1]), some (1, [1, 1]), some (2, [1, 1]), some (2, [1, 1]), some (2, [1, 1]), some (2, [1, 1]), some (2, [1, 1]), some (1, [1, 1]), some (1, [1, 1]), some (2, [2, 2]), some (2, [2, 2]), none, none, some (3, []), some (3, [1]), some (3, [1]), none]
theorem op_cases {p : Nat → Prop} (h1 : p 1) (h2 : p 2) (h3 : p 3) (h4 : p 4) (h5 : p 5) (h6 : p 6) (h7 : p 7) (h8 : p 8) (h9 : p 9) (h10 : p 10) (h11 : p 11) (h12 : p 12) (h13 : p 13) (h14 : p 14) (h15 : p 15) (h16 : p 16) (h17 : p 17) (h18 : p 18) (h19 : p 19) (h20 : p 20) (h21 : p 21) (h22 : p 22) (h23 : p 23) (h24 : p 24) (h25 : p 25) (h26 : p 26) (h27 : p 27) (h28 : p 28) (h29 : p 29) (h30 : p 30) (h31 : p 31) (h32 : p 32) : ∀ op, 1 ≤ op → op ≤ 32 → p op
  | 1, _, _ => h1
  | 2, _, _ => h2
  | 3, _, _ => h3
  | 4, _, _ => h4
  | 5, _, _ => h5
  | 6, _, _ => h6
  | 7, _, _ => h7
  | 8, _, _ => h8
  | 9, _, _ => h9
  | 10, _, _ => h10
  | 11, _, _ => h11
  | 12, _, _ => h12
  | 13, _, _ => h13
  | 14, _, _ => h14
  | 15, _, _ => h15
  | 16, _, _ => h16
  | 17, _, _ => h17
  | 18, _, _ => h18
  | 19, _, _ => h19
  | 20, _, _ => h20
  | 21, _, _ => h21
  | 22, _, _ => h22
  | 23, _, _ => h23
  | 24, _, _ => h24
  | 25, _, _ => h25
  | 26, _, _ => h26
  | 27, _, _ => h27
  | 28, _, _ => h28
  | 29, _, _ => h29
  | 30, _, _ => h30
  | 31, _, _ => h31
  | 32, _, _ => h32
  | 0, h, _ => absurd h (by omega)
  | _ + 33, _, h => absurd h (by omega)
end Go.Proofs.YtigldebdljfnbaaDoor

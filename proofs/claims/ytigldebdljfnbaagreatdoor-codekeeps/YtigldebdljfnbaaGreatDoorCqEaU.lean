/- The law CodeEmits walked. -/
import Derived.Test.YtigldebdljfnbaaGreatDoorCqNbM
import Derived.Test.YtigldebdljfnbaaGreatDoorCqCeF
import Derived.Test.YtigldebdljfnbaaGreatDoorCqNbS
import Derived.Test.YtigldebdljfnbaaGreatDoorCqMhZ
namespace Go.Proofs.YtigldebdljfnbaaGreatDoor
open Go.RowKit

theorem remit_all (q : Co → Co → Bool) (hq : ∀ a b, q a b = true ↔ a = b) (p : PlP) (v : PlV) (w : World) (hs : PlAt w p v) (hL : p.gs.length * 96 ≤ 140737488355328) (hm : C64 p.mets.length) : RemitC p (emitF q p) v w :=
  remit_c q p v w hs hm (fun W hW => rFormed_c q hq p v W (hs.next hW) hL)
end Go.Proofs.YtigldebdljfnbaaGreatDoor

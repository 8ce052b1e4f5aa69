/- The law CoreLazy, walked whole. -/
import Derived.Test.YtkhdcojgcnomgaaGreatDoorCqM
import Derived.Test.YtkhdcojgcnomgaaGreatDoorCqN
namespace Go.Proofs.YtkhdcojgcnomgaaGreatDoor
open Go.RowKit

theorem coreLazy_c (t : Co) (v : Value) (E : EnvP) (v1 v2 : Value) (y : Int) (w : World) (hs : CSits w t v) (he : EnvAt w E v1 v2) (hg : GlE w) (hy0 : 0 ≤ y) (hy1 : y ≤ 255) : Calls Tryz.prog 7 #[coV t v, envV E v1 v2, .int .u8 y] w fun e w' => e = .returned (.bool true) ∧ Below w.heap.size w w' := by
  by_cases hx : csort ladF E.wins.length E.crons.length 256 t = 2
  · exact coreLazy_2 t v E v1 v2 y w hs he hg hy0 hy1 hx
  · exact coreLazy_1 t v E v1 v2 y w hs he hg hy0 hy1 hx
end Go.Proofs.YtkhdcojgcnomgaaGreatDoor

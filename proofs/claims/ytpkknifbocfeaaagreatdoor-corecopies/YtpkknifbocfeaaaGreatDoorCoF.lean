/- Package core: walk, with the visitor of Nodes. -/
import Derived.Test.YtpkknifbocfeaaaGreatDoorMgB
namespace Go.Proofs.YtpkknifbocfeaaaGreatDoor
open Go.RowKit

theorem cbelow_turn {W w w' : World} {F : List Nat} (hb : Below W.heap.size W w) (t : Turn F w w') (hF : ∀ b, b ∈ F → W.heap.size ≤ b) : Below W.heap.size W w' :=
  hb.trans (t.below hF hb.size)
end Go.Proofs.YtpkknifbocfeaaaGreatDoor

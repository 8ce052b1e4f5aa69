/- Emit's contract. -/
import Derived.Test.YtbddbnjhmdbkbaaGreatDoorCaKdU
import Derived.Test.YtbddbnjhmdbkbaaGreatDoorCaKdW
namespace Go.Proofs.YtbddbnjhmdbkbaaGreatDoor
theorem emitC : EmitC := fun q hq p v w hs hF hP hw hc hm => emit_c q hq p v w hs hF hP hw hc hm
end Go.Proofs.YtbddbnjhmdbkbaaGreatDoor

import Derived.Test.YtbddbnjhmdbkbaaGreatDoorCbKdU
import Derived.Test.YtbddbnjhmdbkbaaGreatDoorCbKdW
namespace Go.Proofs.YtbddbnjhmdbkbaaGreatDoor
theorem b0g:a9t:=fun q hq p v w hs hF hP hw hc hm=>a9J q hq p v w hs hF hP hw hc hm
end Go.Proofs.YtbddbnjhmdbkbaaGreatDoor

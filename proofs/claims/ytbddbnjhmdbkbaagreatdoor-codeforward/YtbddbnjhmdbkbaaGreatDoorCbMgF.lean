import Derived.Test.YtbddbnjhmdbkbaaGreatDoorChecked
import Derived.WalkKit
import Derived.WalkSpells
import Derived.Below
import Derived.Shelf.Spec.BitsCarry
import Derived.Deep.RegionHeld3
import Derived.Laws.MathBits
import Derived.BigQuiet
import Derived.Laws.Bits64b
section
namespace Go.Proofs.YtbddbnjhmdbkbaaGreatDoor
open Go.RowKit
set_option maxHeartbeats 400000 in
def held (n:Int):Int:=if n < -9223372036854775808 then -9223372036854775808 else if 9223372036854775807<n then 9223372036854775807 else n
set_option maxHeartbeats 400000 in
set_option maxHeartbeats 400000 in
end Go.Proofs.YtbddbnjhmdbkbaaGreatDoor
end
section
namespace Go.Proofs.YtbddbnjhmdbkbaaGreatDoor
end Go.Proofs.YtbddbnjhmdbkbaaGreatDoor
end
section
namespace Go.Proofs.YtbddbnjhmdbkbaaGreatDoor
open Go.RowKit
end Go.Proofs.YtbddbnjhmdbkbaaGreatDoor
end

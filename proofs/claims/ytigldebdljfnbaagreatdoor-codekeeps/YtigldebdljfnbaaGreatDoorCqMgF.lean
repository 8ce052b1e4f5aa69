import Derived.Test.YtigldebdljfnbaaGreatDoorChecked
import Derived.WalkKit
import Derived.WalkSpells
import Derived.Below
import Derived.Shelf.Spec.BitsCarry
import Derived.Deep.RegionHeld3
import Derived.Laws.MathBits
import Derived.BigQuiet
import Derived.Laws.Bits64b
section
namespace Go.Proofs.YtigldebdljfnbaaGreatDoor
open Go.RowKit

set_option maxHeartbeats 400000 in
/-- widen, its answer written out. -/
def held (n : Int) : Int := if n < -9223372036854775808 then -9223372036854775808 else if 9223372036854775807 < n then 9223372036854775807 else n





end Go.Proofs.YtigldebdljfnbaaGreatDoor
end
section
namespace Go.Proofs.YtigldebdljfnbaaGreatDoor

end Go.Proofs.YtigldebdljfnbaaGreatDoor
end
section
namespace Go.Proofs.YtigldebdljfnbaaGreatDoor
open Go.RowKit

end Go.Proofs.YtigldebdljfnbaaGreatDoor
end

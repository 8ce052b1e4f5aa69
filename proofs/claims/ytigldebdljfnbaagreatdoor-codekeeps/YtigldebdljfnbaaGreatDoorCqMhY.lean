import Derived.Test.YtigldebdljfnbaaGreatDoorCqMgC
import Derived.Test.YtigldebdljfnbaaGreatDoorCqMgF
import Derived.Test.YtigldebdljfnbaaGreatDoorCqMgB
import Derived.LaidEql
import Derived.Stop.Asserts
import Derived.RowKitTokens
section
namespace Go.Proofs.YtigldebdljfnbaaGreatDoor
open Go.RowKit

abbrev Rs := Int × Int
abbrev noR (r : Int) : Rs := (0, r)
end Go.Proofs.YtigldebdljfnbaaGreatDoor
end
section
namespace Go.Proofs.YtigldebdljfnbaaGreatDoor
open Go.RowKit Go.Extern.Stop Go.Stop Go.Extern

end Go.Proofs.YtigldebdljfnbaaGreatDoor
end
section
namespace Go.Proofs.YtigldebdljfnbaaGreatDoor
open Go.RowKit

end Go.Proofs.YtigldebdljfnbaaGreatDoor
end

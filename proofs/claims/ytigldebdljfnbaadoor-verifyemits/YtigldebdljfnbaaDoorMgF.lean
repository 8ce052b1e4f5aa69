import Derived.Test.YtigldebdljfnbaaDoorChecked
import Derived.WalkKit
import Derived.WalkSpells
import Derived.Below
import Derived.Shelf.Spec.BitsCarry
import Derived.Deep.RegionHeld3
import Derived.Laws.MathBits
import Derived.BigQuiet
import Derived.Laws.Bits64b
section
namespace Go.Proofs.YtigldebdljfnbaaDoor
open Go.RowKit

def held (n : Int) : Int := if n < -9223372036854775808 then -9223372036854775808 else if 9223372036854775807 < n then 9223372036854775807 else n


def fl (n d : Int) : Int := if 0 < d then n / d else (-n) / (-d)




end Go.Proofs.YtigldebdljfnbaaDoor
end
section
namespace Go.Proofs.YtigldebdljfnbaaDoor

end Go.Proofs.YtigldebdljfnbaaDoor
end
section
namespace Go.Proofs.YtigldebdljfnbaaDoor
open Go.RowKit

end Go.Proofs.YtigldebdljfnbaaDoor
end

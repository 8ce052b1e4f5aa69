import Derived.Test.YtigldebdljfnbaaDoorMgC
import Derived.Test.YtigldebdljfnbaaDoorMgF
import Derived.Test.YtigldebdljfnbaaDoorMgB
import Derived.LaidEql
import Derived.Stop.Asserts
import Derived.RowKitTokens
section
namespace Go.Proofs.YtigldebdljfnbaaDoor
open Go.RowKit

abbrev Rs := Int × Int
abbrev noR (r : Int) : Rs := (0, r)
end Go.Proofs.YtigldebdljfnbaaDoor
end
section
namespace Go.Proofs.YtigldebdljfnbaaDoor
open Go.RowKit Go.Extern.Stop Go.Stop Go.Extern

end Go.Proofs.YtigldebdljfnbaaDoor
end
section
namespace Go.Proofs.YtigldebdljfnbaaDoor
open Go.RowKit

end Go.Proofs.YtigldebdljfnbaaDoor
end

import Derived.Test.YtigldebdljfnbaaDoorNaF
import Derived.Test.YtigldebdljfnbaaDoorMgP
namespace Go.Proofs.YtigldebdljfnbaaDoor
open Go.RowKit


end Go.Proofs.YtigldebdljfnbaaDoor

import Derived.Test.YtigldebdljfnbaaDoorMhY
namespace Go.Proofs.YtigldebdljfnbaaDoor
open Go.RowKit






end Go.Proofs.YtigldebdljfnbaaDoor

/- Package codec: the document's Told. -/
import Derived.Test.YthfnjlfhaibbeaaDoorDcG
namespace Go.Proofs.YthfnjlfhaibbeaaDoor
open Go.RowKit

end Go.Proofs.YthfnjlfhaibbeaaDoor

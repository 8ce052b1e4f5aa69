/- The list of what is kept; what shows that the program is awake. -/
import Derived.Test.YtccgbkafcbfcgaaMoT
namespace Go.Proofs.Ytccgbkafcbfcgaa
open Go.RowKit

end Go.Proofs.Ytccgbkafcbfcgaa

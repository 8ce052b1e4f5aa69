import Derived.Test.YtigldebdljfnbaaGreatDoorCmMhY
namespace Go.Proofs.YtigldebdljfnbaaGreatDoor
open Go.RowKit






end Go.Proofs.YtigldebdljfnbaaGreatDoor

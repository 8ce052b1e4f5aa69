import Derived.Test.YtigldebdljfnbaaGreatDoorCqMhY
namespace Go.Proofs.YtigldebdljfnbaaGreatDoor
open Go.RowKit






end Go.Proofs.YtigldebdljfnbaaGreatDoor

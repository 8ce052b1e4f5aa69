import Derived.Test.YtbddbnjhmdbkbaaGreatDoorCbMgC
import Derived.Test.YtbddbnjhmdbkbaaGreatDoorCbMgF
import Derived.Test.YtbddbnjhmdbkbaaGreatDoorCbMgB
import Derived.LaidEql
import Derived.Stop.Asserts
import Derived.RowKitTokens
section
namespace Go.Proofs.YtbddbnjhmdbkbaaGreatDoor
open Go.RowKit
end Go.Proofs.YtbddbnjhmdbkbaaGreatDoor
end
section
namespace Go.Proofs.YtbddbnjhmdbkbaaGreatDoor
open Go.RowKit Go.Extern.Stop Go.Stop Go.Extern
set_option maxHeartbeats 1000000 in
set_option maxRecDepth 20000 in
end Go.Proofs.YtbddbnjhmdbkbaaGreatDoor
end
section
namespace Go.Proofs.YtbddbnjhmdbkbaaGreatDoor
open Go.RowKit
end Go.Proofs.YtbddbnjhmdbkbaaGreatDoor
end

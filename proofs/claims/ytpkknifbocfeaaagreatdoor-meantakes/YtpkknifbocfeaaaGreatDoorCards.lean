/-
  DERIVED. GIVEN WITH THE SEED: THE CARDS: each row of YtpkknifbocfeaaaGreatDoorRows.lean that lists a variable, with what it lists TIED to the program's text (the seventh form; the later family's looks); each row that meets fmt, with fmt's text TOLD by the authors' own Lean function (tested against real Go, not proved from fmt's source: count such statements apart). THE CARD IS WHAT COUNTS. Prove the row's statement (the work); the ties are given (YtpkknifbocfeaaaGreatDoorTie.lean); close each card by the builder's one call (the guide's Derived/Test/ToyasCard.lean, 'card_holds'). Laid BY PROGRAM, IN A SANDBOX (cutbox-door.mjs). By AI agents, Wed Nov 11 2026. No macro, syntax, notation, axiom, sorry.
-/
import Derived.Test.YtpkknifbocfeaaaGreatDoorRows
import GoSem.ClaimSeven
namespace Go.Proofs.YtpkknifbocfeaaaGreatDoor
namespace Rows

/-- THE TIED CARD OF 'capstanlaw15.CoreCopies'. -/
def coreCopiesCard : Claim7 := { stood := { row := coreCopiesRow, standIns := [], harness := (true, "e2dee10ba36965e68c456c738cc8037b2e961b41a83589d39b1099aa1aabdccd"), looks := true }, kinds := [], alts := [], laidByText := true, laidKinds := [.handle], laidTests := true, laidLooks := .later }
def CoreCopiesCardSaid : Prop := Claim7.holds Tryz.pinned (.plain (OpenSpec.ofChange coreCopiesSpec)) coreCopiesCard

/-- THE TIED CARD OF 'capstanlaw17.MeanTakes'. -/
def meanTakesCard : Claim7 := { stood := { row := meanTakesRow, standIns := [], harness := (true, "e2dee10ba36965e68c456c738cc8037b2e961b41a83589d39b1099aa1aabdccd"), looks := true }, kinds := [], alts := [], laidByText := true, laidKinds := [.data, .handle, .data], laidTests := true, laidLooks := .later }
def MeanTakesCardSaid : Prop := Claim7.holds Tryz.pinned (.plain (OpenSpec.ofChange meanTakesSpec)) meanTakesCard

/-- THE TIED CARD OF 'capstanlaw17.MeanSees'. -/
def meanSeesCard : Claim7 := { stood := { row := meanSeesRow, standIns := [], harness := (true, "e2dee10ba36965e68c456c738cc8037b2e961b41a83589d39b1099aa1aabdccd"), looks := true }, kinds := [], alts := [], laidByText := true, laidKinds := [.data, .handle, .data], laidTests := true, laidLooks := .later }
def MeanSeesCardSaid : Prop := Claim7.holds Tryz.pinned (.plain (OpenSpec.ofChange meanSeesSpec)) meanSeesCard

/-- THE TIED CARD OF 'capstanlaw17.MeanDecides'. -/
def meanDecidesCard : Claim7 := { stood := { row := meanDecidesRow, standIns := [], harness := (true, "e2dee10ba36965e68c456c738cc8037b2e961b41a83589d39b1099aa1aabdccd"), looks := true }, kinds := [], alts := [], laidByText := true, laidKinds := [.data, .handle, .data], laidTests := true, laidLooks := .later }
def MeanDecidesCardSaid : Prop := Claim7.holds Tryz.pinned (.plain (OpenSpec.ofChange meanDecidesSpec)) meanDecidesCard

/-- THE TIED CARD OF 'capstanlaw17.MeanDrops'. -/
def meanDropsCard : Claim7 := { stood := { row := meanDropsRow, standIns := [], harness := (true, "e2dee10ba36965e68c456c738cc8037b2e961b41a83589d39b1099aa1aabdccd"), looks := true }, kinds := [], alts := [], laidByText := true, laidKinds := [.data, .handle, .data], laidTests := true, laidLooks := .later }
def MeanDropsCardSaid : Prop := Claim7.holds Tryz.pinned (.plain (OpenSpec.ofChange meanDropsSpec)) meanDropsCard

/-- THE TIED CARD OF 'capstanlaw17.MeanForgets'. -/
def meanForgetsCard : Claim7 := { stood := { row := meanForgetsRow, standIns := [], harness := (true, "e2dee10ba36965e68c456c738cc8037b2e961b41a83589d39b1099aa1aabdccd"), looks := true }, kinds := [], alts := [], laidByText := true, laidKinds := [.data, .handle, .data], laidTests := true, laidLooks := .later }
def MeanForgetsCardSaid : Prop := Claim7.holds Tryz.pinned (.plain (OpenSpec.ofChange meanForgetsSpec)) meanForgetsCard

/-- THE SECOND FORM's CARD OF 'capstanlaw15.CoreCopies'. -/
def coreCopiesUptoCard : Claim7 := { stood := { row := coreCopiesUptoRow, standIns := [], harness := (true, "e2dee10ba36965e68c456c738cc8037b2e961b41a83589d39b1099aa1aabdccd"), looks := true }, kinds := [], alts := [], laidByText := true, laidKinds := [.handle], laidTests := true, laidLooks := .later }
def CoreCopiesUptoCardSaid : Prop := Claim7.holds Tryz.pinned (.plain (OpenSpec.upto coreCopiesSpec)) coreCopiesUptoCard

/-- THE SECOND FORM's CARD OF 'capstanlaw17.MeanTakes'. -/
def meanTakesUptoCard : Claim7 := { stood := { row := meanTakesUptoRow, standIns := [], harness := (true, "e2dee10ba36965e68c456c738cc8037b2e961b41a83589d39b1099aa1aabdccd"), looks := true }, kinds := [], alts := [], laidByText := true, laidKinds := [.data, .handle, .data], laidTests := true, laidLooks := .later }
def MeanTakesUptoCardSaid : Prop := Claim7.holds Tryz.pinned (.plain (OpenSpec.upto meanTakesSpec)) meanTakesUptoCard

/-- THE SECOND FORM's CARD OF 'capstanlaw17.MeanSees'. -/
def meanSeesUptoCard : Claim7 := { stood := { row := meanSeesUptoRow, standIns := [], harness := (true, "e2dee10ba36965e68c456c738cc8037b2e961b41a83589d39b1099aa1aabdccd"), looks := true }, kinds := [], alts := [], laidByText := true, laidKinds := [.data, .handle, .data], laidTests := true, laidLooks := .later }
def MeanSeesUptoCardSaid : Prop := Claim7.holds Tryz.pinned (.plain (OpenSpec.upto meanSeesSpec)) meanSeesUptoCard

/-- THE SECOND FORM's CARD OF 'capstanlaw17.MeanDecides'. -/
def meanDecidesUptoCard : Claim7 := { stood := { row := meanDecidesUptoRow, standIns := [], harness := (true, "e2dee10ba36965e68c456c738cc8037b2e961b41a83589d39b1099aa1aabdccd"), looks := true }, kinds := [], alts := [], laidByText := true, laidKinds := [.data, .handle, .data], laidTests := true, laidLooks := .later }
def MeanDecidesUptoCardSaid : Prop := Claim7.holds Tryz.pinned (.plain (OpenSpec.upto meanDecidesSpec)) meanDecidesUptoCard

/-- THE SECOND FORM's CARD OF 'capstanlaw17.MeanDrops'. -/
def meanDropsUptoCard : Claim7 := { stood := { row := meanDropsUptoRow, standIns := [], harness := (true, "e2dee10ba36965e68c456c738cc8037b2e961b41a83589d39b1099aa1aabdccd"), looks := true }, kinds := [], alts := [], laidByText := true, laidKinds := [.data, .handle, .data], laidTests := true, laidLooks := .later }
def MeanDropsUptoCardSaid : Prop := Claim7.holds Tryz.pinned (.plain (OpenSpec.upto meanDropsSpec)) meanDropsUptoCard

/-- THE SECOND FORM's CARD OF 'capstanlaw17.MeanForgets'. -/
def meanForgetsUptoCard : Claim7 := { stood := { row := meanForgetsUptoRow, standIns := [], harness := (true, "e2dee10ba36965e68c456c738cc8037b2e961b41a83589d39b1099aa1aabdccd"), looks := true }, kinds := [], alts := [], laidByText := true, laidKinds := [.data, .handle, .data], laidTests := true, laidLooks := .later }
def MeanForgetsUptoCardSaid : Prop := Claim7.holds Tryz.pinned (.plain (OpenSpec.upto meanForgetsSpec)) meanForgetsUptoCard
end Rows
end Go.Proofs.YtpkknifbocfeaaaGreatDoor

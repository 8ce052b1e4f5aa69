/-
  DERIVED. GIVEN WITH THE SEED: THE CARDS: each row of YtbgomckkockemaaGreatDoorRows.lean that lists a variable, with what it lists TIED to the program's text (the seventh form; the later family's looks); each row that meets fmt, with fmt's text TOLD by the authors' own Lean function (tested against real Go, not proved from fmt's source: count such statements apart). THE CARD IS WHAT COUNTS. Prove the row's statement (the work); the ties are given (YtbgomckkockemaaGreatDoorTie.lean); close each card by the builder's one call (the guide's Derived/Test/ToyasCard.lean, 'card_holds'). Laid BY PROGRAM, IN A SANDBOX (cutbox-door.mjs). By AI agents, Wed Nov 11 2026. No macro, syntax, notation, axiom, sorry.
-/
import Derived.Test.YtbgomckkockemaaGreatDoorRows
import GoSem.ClaimSeven
namespace Go.Proofs.YtbgomckkockemaaGreatDoor
namespace Rows

/-- THE TIED CARD OF 'capstanlaw17.MeanSees'. -/
def meanSeesCard : Claim7 := { stood := { row := meanSeesRow, standIns := [], harness := (true, "361edbdf58c9dbc21b4eefee70c3d4b356ca14b377ca5f961e1a828b45aae142"), looks := true }, kinds := [], alts := [], laidByText := true, laidKinds := [.data, .handle, .data], laidTests := true, laidLooks := .later }
def MeanSeesCardSaid : Prop := Claim7.holds Tryz.pinned (.plain (OpenSpec.ofChange meanSeesSpec)) meanSeesCard

/-- THE TIED CARD OF 'capstanlaw17.MeanDecides'. -/
def meanDecidesCard : Claim7 := { stood := { row := meanDecidesRow, standIns := [], harness := (true, "361edbdf58c9dbc21b4eefee70c3d4b356ca14b377ca5f961e1a828b45aae142"), looks := true }, kinds := [], alts := [], laidByText := true, laidKinds := [.data, .handle, .data], laidTests := true, laidLooks := .later }
def MeanDecidesCardSaid : Prop := Claim7.holds Tryz.pinned (.plain (OpenSpec.ofChange meanDecidesSpec)) meanDecidesCard

/-- THE TIED CARD OF 'capstanlaw17.MeanForgets'. -/
def meanForgetsCard : Claim7 := { stood := { row := meanForgetsRow, standIns := [], harness := (true, "361edbdf58c9dbc21b4eefee70c3d4b356ca14b377ca5f961e1a828b45aae142"), looks := true }, kinds := [], alts := [], laidByText := true, laidKinds := [.data, .handle, .data], laidTests := true, laidLooks := .later }
def MeanForgetsCardSaid : Prop := Claim7.holds Tryz.pinned (.plain (OpenSpec.ofChange meanForgetsSpec)) meanForgetsCard

/-- THE TIED CARD OF 'capstanlaw18.FoldPlans'. -/
def foldPlansCard : Claim7 := { stood := { row := foldPlansRow, standIns := [], harness := (true, "361edbdf58c9dbc21b4eefee70c3d4b356ca14b377ca5f961e1a828b45aae142"), looks := true }, kinds := [], alts := [], laidByText := true, laidKinds := [.handle, .data], laidTests := true, laidLooks := .later }
def FoldPlansCardSaid : Prop := Claim7.holds Tryz.pinned (.plain (OpenSpec.ofChange foldPlansSpec)) foldPlansCard

/-- THE TIED CARD OF 'capstanlaw18.FoldMeans'. -/
def foldMeansCard : Claim7 := { stood := { row := foldMeansRow, standIns := [], harness := (true, "361edbdf58c9dbc21b4eefee70c3d4b356ca14b377ca5f961e1a828b45aae142"), looks := true }, kinds := [], alts := [], laidByText := true, laidKinds := [.handle, .data], laidTests := true, laidLooks := .later }
def FoldMeansCardSaid : Prop := Claim7.holds Tryz.pinned (.plain (OpenSpec.ofChange foldMeansSpec)) foldMeansCard

/-- THE TIED CARD OF 'capstanlaw19.PrunePlans'. -/
def prunePlansCard : Claim7 := { stood := { row := prunePlansRow, standIns := [], harness := (true, "361edbdf58c9dbc21b4eefee70c3d4b356ca14b377ca5f961e1a828b45aae142"), looks := true }, kinds := [], alts := [], laidByText := true, laidKinds := [.handle, .data], laidTests := true, laidLooks := .later }
def PrunePlansCardSaid : Prop := Claim7.holds Tryz.pinned (.plain (OpenSpec.ofChange prunePlansSpec)) prunePlansCard

/-- THE TIED CARD OF 'capstanlaw19.PruneMeans'. -/
def pruneMeansCard : Claim7 := { stood := { row := pruneMeansRow, standIns := [], harness := (true, "361edbdf58c9dbc21b4eefee70c3d4b356ca14b377ca5f961e1a828b45aae142"), looks := true }, kinds := [], alts := [], laidByText := true, laidKinds := [.handle, .data], laidTests := true, laidLooks := .later }
def PruneMeansCardSaid : Prop := Claim7.holds Tryz.pinned (.plain (OpenSpec.ofChange pruneMeansSpec)) pruneMeansCard

/-- THE TIED CARD OF 'capstanlaw19.PruneLeast'. -/
def pruneLeastCard : Claim7 := { stood := { row := pruneLeastRow, standIns := [], harness := (true, "361edbdf58c9dbc21b4eefee70c3d4b356ca14b377ca5f961e1a828b45aae142"), looks := true }, kinds := [], alts := [], laidByText := true, laidKinds := [.handle, .data], laidTests := true, laidLooks := .later }
def PruneLeastCardSaid : Prop := Claim7.holds Tryz.pinned (.plain (OpenSpec.ofChange pruneLeastSpec)) pruneLeastCard

/-- THE TIED CARD OF 'capstanlaw19.PruneRungs'. -/
def pruneRungsCard : Claim7 := { stood := { row := pruneRungsRow, standIns := [], harness := (true, "361edbdf58c9dbc21b4eefee70c3d4b356ca14b377ca5f961e1a828b45aae142"), looks := true }, kinds := [], alts := [], laidByText := true, laidKinds := [.handle, .data], laidTests := true, laidLooks := .later }
def PruneRungsCardSaid : Prop := Claim7.holds Tryz.pinned (.plain (OpenSpec.ofChange pruneRungsSpec)) pruneRungsCard

/-- THE TIED CARD OF 'capstanlaw19.PruneKeeps'. -/
def pruneKeepsCard : Claim7 := { stood := { row := pruneKeepsRow, standIns := [], harness := (true, "361edbdf58c9dbc21b4eefee70c3d4b356ca14b377ca5f961e1a828b45aae142"), looks := true }, kinds := [], alts := [], laidByText := true, laidKinds := [.handle, .data], laidTests := true, laidLooks := .later }
def PruneKeepsCardSaid : Prop := Claim7.holds Tryz.pinned (.plain (OpenSpec.ofChange pruneKeepsSpec)) pruneKeepsCard

/-- THE SECOND FORM's CARD OF 'capstanlaw17.MeanSees'. -/
def meanSeesUptoCard : Claim7 := { stood := { row := meanSeesUptoRow, standIns := [], harness := (true, "361edbdf58c9dbc21b4eefee70c3d4b356ca14b377ca5f961e1a828b45aae142"), looks := true }, kinds := [], alts := [], laidByText := true, laidKinds := [.data, .handle, .data], laidTests := true, laidLooks := .later }
def MeanSeesUptoCardSaid : Prop := Claim7.holds Tryz.pinned (.plain (OpenSpec.upto meanSeesSpec)) meanSeesUptoCard

/-- THE SECOND FORM's CARD OF 'capstanlaw17.MeanDecides'. -/
def meanDecidesUptoCard : Claim7 := { stood := { row := meanDecidesUptoRow, standIns := [], harness := (true, "361edbdf58c9dbc21b4eefee70c3d4b356ca14b377ca5f961e1a828b45aae142"), looks := true }, kinds := [], alts := [], laidByText := true, laidKinds := [.data, .handle, .data], laidTests := true, laidLooks := .later }
def MeanDecidesUptoCardSaid : Prop := Claim7.holds Tryz.pinned (.plain (OpenSpec.upto meanDecidesSpec)) meanDecidesUptoCard

/-- THE SECOND FORM's CARD OF 'capstanlaw17.MeanForgets'. -/
def meanForgetsUptoCard : Claim7 := { stood := { row := meanForgetsUptoRow, standIns := [], harness := (true, "361edbdf58c9dbc21b4eefee70c3d4b356ca14b377ca5f961e1a828b45aae142"), looks := true }, kinds := [], alts := [], laidByText := true, laidKinds := [.data, .handle, .data], laidTests := true, laidLooks := .later }
def MeanForgetsUptoCardSaid : Prop := Claim7.holds Tryz.pinned (.plain (OpenSpec.upto meanForgetsSpec)) meanForgetsUptoCard

/-- THE SECOND FORM's CARD OF 'capstanlaw18.FoldPlans'. -/
def foldPlansUptoCard : Claim7 := { stood := { row := foldPlansUptoRow, standIns := [], harness := (true, "361edbdf58c9dbc21b4eefee70c3d4b356ca14b377ca5f961e1a828b45aae142"), looks := true }, kinds := [], alts := [], laidByText := true, laidKinds := [.handle, .data], laidTests := true, laidLooks := .later }
def FoldPlansUptoCardSaid : Prop := Claim7.holds Tryz.pinned (.plain (OpenSpec.upto foldPlansSpec)) foldPlansUptoCard

/-- THE SECOND FORM's CARD OF 'capstanlaw18.FoldMeans'. -/
def foldMeansUptoCard : Claim7 := { stood := { row := foldMeansUptoRow, standIns := [], harness := (true, "361edbdf58c9dbc21b4eefee70c3d4b356ca14b377ca5f961e1a828b45aae142"), looks := true }, kinds := [], alts := [], laidByText := true, laidKinds := [.handle, .data], laidTests := true, laidLooks := .later }
def FoldMeansUptoCardSaid : Prop := Claim7.holds Tryz.pinned (.plain (OpenSpec.upto foldMeansSpec)) foldMeansUptoCard

/-- THE SECOND FORM's CARD OF 'capstanlaw19.PrunePlans'. -/
def prunePlansUptoCard : Claim7 := { stood := { row := prunePlansUptoRow, standIns := [], harness := (true, "361edbdf58c9dbc21b4eefee70c3d4b356ca14b377ca5f961e1a828b45aae142"), looks := true }, kinds := [], alts := [], laidByText := true, laidKinds := [.handle, .data], laidTests := true, laidLooks := .later }
def PrunePlansUptoCardSaid : Prop := Claim7.holds Tryz.pinned (.plain (OpenSpec.upto prunePlansSpec)) prunePlansUptoCard

/-- THE SECOND FORM's CARD OF 'capstanlaw19.PruneMeans'. -/
def pruneMeansUptoCard : Claim7 := { stood := { row := pruneMeansUptoRow, standIns := [], harness := (true, "361edbdf58c9dbc21b4eefee70c3d4b356ca14b377ca5f961e1a828b45aae142"), looks := true }, kinds := [], alts := [], laidByText := true, laidKinds := [.handle, .data], laidTests := true, laidLooks := .later }
def PruneMeansUptoCardSaid : Prop := Claim7.holds Tryz.pinned (.plain (OpenSpec.upto pruneMeansSpec)) pruneMeansUptoCard

/-- THE SECOND FORM's CARD OF 'capstanlaw19.PruneLeast'. -/
def pruneLeastUptoCard : Claim7 := { stood := { row := pruneLeastUptoRow, standIns := [], harness := (true, "361edbdf58c9dbc21b4eefee70c3d4b356ca14b377ca5f961e1a828b45aae142"), looks := true }, kinds := [], alts := [], laidByText := true, laidKinds := [.handle, .data], laidTests := true, laidLooks := .later }
def PruneLeastUptoCardSaid : Prop := Claim7.holds Tryz.pinned (.plain (OpenSpec.upto pruneLeastSpec)) pruneLeastUptoCard

/-- THE SECOND FORM's CARD OF 'capstanlaw19.PruneRungs'. -/
def pruneRungsUptoCard : Claim7 := { stood := { row := pruneRungsUptoRow, standIns := [], harness := (true, "361edbdf58c9dbc21b4eefee70c3d4b356ca14b377ca5f961e1a828b45aae142"), looks := true }, kinds := [], alts := [], laidByText := true, laidKinds := [.handle, .data], laidTests := true, laidLooks := .later }
def PruneRungsUptoCardSaid : Prop := Claim7.holds Tryz.pinned (.plain (OpenSpec.upto pruneRungsSpec)) pruneRungsUptoCard

/-- THE SECOND FORM's CARD OF 'capstanlaw19.PruneKeeps'. -/
def pruneKeepsUptoCard : Claim7 := { stood := { row := pruneKeepsUptoRow, standIns := [], harness := (true, "361edbdf58c9dbc21b4eefee70c3d4b356ca14b377ca5f961e1a828b45aae142"), looks := true }, kinds := [], alts := [], laidByText := true, laidKinds := [.handle, .data], laidTests := true, laidLooks := .later }
def PruneKeepsUptoCardSaid : Prop := Claim7.holds Tryz.pinned (.plain (OpenSpec.upto pruneKeepsSpec)) pruneKeepsUptoCard
end Rows
end Go.Proofs.YtbgomckkockemaaGreatDoor

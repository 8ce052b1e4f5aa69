/-
  DERIVED. GIVEN WITH THE SEED: THE CARDS: each row of YtepncopdjodfgaaGreatDoorRows.lean that lists a variable, with what it lists TIED to the program's text (the seventh form; the later family's looks); each row that meets fmt, with fmt's text TOLD by the authors' own Lean function (tested against real Go, not proved from fmt's source: count such statements apart). THE CARD IS WHAT COUNTS. Prove the row's statement (the work); the ties are given (YtepncopdjodfgaaGreatDoorTie.lean); close each card by the builder's one call (the guide's Derived/Test/ToyasCard.lean, 'card_holds'). Laid BY PROGRAM, IN A SANDBOX (cutbox-door.mjs). By AI agents, Wed Nov 11 2026. No macro, syntax, notation, axiom, sorry.
-/
import Derived.Test.YtepncopdjodfgaaGreatDoorRows
import GoSem.ClaimSeven
namespace Go.Proofs.YtepncopdjodfgaaGreatDoor
namespace Rows

/-- THE TIED CARD OF 'capstanlaw17.MeanSees'. -/
def meanSeesCard : Claim7 := { stood := { row := meanSeesRow, standIns := [], harness := (true, "5138aafc156c57295bebf1d628f1fe641eae18fc08ee43f218ff616f63d777b0"), looks := true }, kinds := [], alts := [], laidByText := true, laidKinds := [.data, .handle, .data], laidTests := true, laidLooks := .later }
def MeanSeesCardSaid : Prop := Claim7.holds Tryz.pinned (.plain (OpenSpec.ofChange meanSeesSpec)) meanSeesCard

/-- THE TIED CARD OF 'capstanlaw17.MeanDecides'. -/
def meanDecidesCard : Claim7 := { stood := { row := meanDecidesRow, standIns := [], harness := (true, "5138aafc156c57295bebf1d628f1fe641eae18fc08ee43f218ff616f63d777b0"), looks := true }, kinds := [], alts := [], laidByText := true, laidKinds := [.data, .handle, .data], laidTests := true, laidLooks := .later }
def MeanDecidesCardSaid : Prop := Claim7.holds Tryz.pinned (.plain (OpenSpec.ofChange meanDecidesSpec)) meanDecidesCard

/-- THE TIED CARD OF 'capstanlaw17.MeanDrops'. -/
def meanDropsCard : Claim7 := { stood := { row := meanDropsRow, standIns := [], harness := (true, "5138aafc156c57295bebf1d628f1fe641eae18fc08ee43f218ff616f63d777b0"), looks := true }, kinds := [], alts := [], laidByText := true, laidKinds := [.data, .handle, .data], laidTests := true, laidLooks := .later }
def MeanDropsCardSaid : Prop := Claim7.holds Tryz.pinned (.plain (OpenSpec.ofChange meanDropsSpec)) meanDropsCard

/-- THE TIED CARD OF 'capstanlaw17.MeanForgets'. -/
def meanForgetsCard : Claim7 := { stood := { row := meanForgetsRow, standIns := [], harness := (true, "5138aafc156c57295bebf1d628f1fe641eae18fc08ee43f218ff616f63d777b0"), looks := true }, kinds := [], alts := [], laidByText := true, laidKinds := [.data, .handle, .data], laidTests := true, laidLooks := .later }
def MeanForgetsCardSaid : Prop := Claim7.holds Tryz.pinned (.plain (OpenSpec.ofChange meanForgetsSpec)) meanForgetsCard

/-- THE TIED CARD OF 'capstanlaw18.FoldCores'. -/
def foldCoresCard : Claim7 := { stood := { row := foldCoresRow, standIns := [], harness := (true, "5138aafc156c57295bebf1d628f1fe641eae18fc08ee43f218ff616f63d777b0"), looks := true }, kinds := [], alts := [], laidByText := true, laidKinds := [.handle], laidTests := true, laidLooks := .later }
def FoldCoresCardSaid : Prop := Claim7.holds Tryz.pinned (.plain (OpenSpec.ofChange foldCoresSpec)) foldCoresCard

/-- THE TIED CARD OF 'capstanlaw18.FoldPlans'. -/
def foldPlansCard : Claim7 := { stood := { row := foldPlansRow, standIns := [], harness := (true, "5138aafc156c57295bebf1d628f1fe641eae18fc08ee43f218ff616f63d777b0"), looks := true }, kinds := [], alts := [], laidByText := true, laidKinds := [.handle, .data], laidTests := true, laidLooks := .later }
def FoldPlansCardSaid : Prop := Claim7.holds Tryz.pinned (.plain (OpenSpec.ofChange foldPlansSpec)) foldPlansCard

/-- THE TIED CARD OF 'capstanlaw18.FoldMeans'. -/
def foldMeansCard : Claim7 := { stood := { row := foldMeansRow, standIns := [], harness := (true, "5138aafc156c57295bebf1d628f1fe641eae18fc08ee43f218ff616f63d777b0"), looks := true }, kinds := [], alts := [], laidByText := true, laidKinds := [.handle, .data], laidTests := true, laidLooks := .later }
def FoldMeansCardSaid : Prop := Claim7.holds Tryz.pinned (.plain (OpenSpec.ofChange foldMeansSpec)) foldMeansCard

/-- THE TIED CARD OF 'capstanlaw18.FoldComes'. -/
def foldComesCard : Claim7 := { stood := { row := foldComesRow, standIns := [], harness := (true, "5138aafc156c57295bebf1d628f1fe641eae18fc08ee43f218ff616f63d777b0"), looks := true }, kinds := [], alts := [], laidByText := true, laidKinds := [.handle], laidTests := true, laidLooks := .later }
def FoldComesCardSaid : Prop := Claim7.holds Tryz.pinned (.plain (OpenSpec.ofChange foldComesSpec)) foldComesCard

/-- THE TIED CARD OF 'capstanlaw18.FoldWhole'. -/
def foldWholeCard : Claim7 := { stood := { row := foldWholeRow, standIns := [], harness := (true, "5138aafc156c57295bebf1d628f1fe641eae18fc08ee43f218ff616f63d777b0"), looks := true }, kinds := [], alts := [], laidByText := true, laidKinds := [.handle], laidTests := true, laidLooks := .later }
def FoldWholeCardSaid : Prop := Claim7.holds Tryz.pinned (.plain (OpenSpec.ofChange foldWholeSpec)) foldWholeCard

/-- THE SECOND FORM's CARD OF 'capstanlaw17.MeanSees'. -/
def meanSeesUptoCard : Claim7 := { stood := { row := meanSeesUptoRow, standIns := [], harness := (true, "5138aafc156c57295bebf1d628f1fe641eae18fc08ee43f218ff616f63d777b0"), looks := true }, kinds := [], alts := [], laidByText := true, laidKinds := [.data, .handle, .data], laidTests := true, laidLooks := .later }
def MeanSeesUptoCardSaid : Prop := Claim7.holds Tryz.pinned (.plain (OpenSpec.upto meanSeesSpec)) meanSeesUptoCard

/-- THE SECOND FORM's CARD OF 'capstanlaw17.MeanDecides'. -/
def meanDecidesUptoCard : Claim7 := { stood := { row := meanDecidesUptoRow, standIns := [], harness := (true, "5138aafc156c57295bebf1d628f1fe641eae18fc08ee43f218ff616f63d777b0"), looks := true }, kinds := [], alts := [], laidByText := true, laidKinds := [.data, .handle, .data], laidTests := true, laidLooks := .later }
def MeanDecidesUptoCardSaid : Prop := Claim7.holds Tryz.pinned (.plain (OpenSpec.upto meanDecidesSpec)) meanDecidesUptoCard

/-- THE SECOND FORM's CARD OF 'capstanlaw17.MeanDrops'. -/
def meanDropsUptoCard : Claim7 := { stood := { row := meanDropsUptoRow, standIns := [], harness := (true, "5138aafc156c57295bebf1d628f1fe641eae18fc08ee43f218ff616f63d777b0"), looks := true }, kinds := [], alts := [], laidByText := true, laidKinds := [.data, .handle, .data], laidTests := true, laidLooks := .later }
def MeanDropsUptoCardSaid : Prop := Claim7.holds Tryz.pinned (.plain (OpenSpec.upto meanDropsSpec)) meanDropsUptoCard

/-- THE SECOND FORM's CARD OF 'capstanlaw17.MeanForgets'. -/
def meanForgetsUptoCard : Claim7 := { stood := { row := meanForgetsUptoRow, standIns := [], harness := (true, "5138aafc156c57295bebf1d628f1fe641eae18fc08ee43f218ff616f63d777b0"), looks := true }, kinds := [], alts := [], laidByText := true, laidKinds := [.data, .handle, .data], laidTests := true, laidLooks := .later }
def MeanForgetsUptoCardSaid : Prop := Claim7.holds Tryz.pinned (.plain (OpenSpec.upto meanForgetsSpec)) meanForgetsUptoCard

/-- THE SECOND FORM's CARD OF 'capstanlaw18.FoldCores'. -/
def foldCoresUptoCard : Claim7 := { stood := { row := foldCoresUptoRow, standIns := [], harness := (true, "5138aafc156c57295bebf1d628f1fe641eae18fc08ee43f218ff616f63d777b0"), looks := true }, kinds := [], alts := [], laidByText := true, laidKinds := [.handle], laidTests := true, laidLooks := .later }
def FoldCoresUptoCardSaid : Prop := Claim7.holds Tryz.pinned (.plain (OpenSpec.upto foldCoresSpec)) foldCoresUptoCard

/-- THE SECOND FORM's CARD OF 'capstanlaw18.FoldPlans'. -/
def foldPlansUptoCard : Claim7 := { stood := { row := foldPlansUptoRow, standIns := [], harness := (true, "5138aafc156c57295bebf1d628f1fe641eae18fc08ee43f218ff616f63d777b0"), looks := true }, kinds := [], alts := [], laidByText := true, laidKinds := [.handle, .data], laidTests := true, laidLooks := .later }
def FoldPlansUptoCardSaid : Prop := Claim7.holds Tryz.pinned (.plain (OpenSpec.upto foldPlansSpec)) foldPlansUptoCard

/-- THE SECOND FORM's CARD OF 'capstanlaw18.FoldMeans'. -/
def foldMeansUptoCard : Claim7 := { stood := { row := foldMeansUptoRow, standIns := [], harness := (true, "5138aafc156c57295bebf1d628f1fe641eae18fc08ee43f218ff616f63d777b0"), looks := true }, kinds := [], alts := [], laidByText := true, laidKinds := [.handle, .data], laidTests := true, laidLooks := .later }
def FoldMeansUptoCardSaid : Prop := Claim7.holds Tryz.pinned (.plain (OpenSpec.upto foldMeansSpec)) foldMeansUptoCard

/-- THE SECOND FORM's CARD OF 'capstanlaw18.FoldComes'. -/
def foldComesUptoCard : Claim7 := { stood := { row := foldComesUptoRow, standIns := [], harness := (true, "5138aafc156c57295bebf1d628f1fe641eae18fc08ee43f218ff616f63d777b0"), looks := true }, kinds := [], alts := [], laidByText := true, laidKinds := [.handle], laidTests := true, laidLooks := .later }
def FoldComesUptoCardSaid : Prop := Claim7.holds Tryz.pinned (.plain (OpenSpec.upto foldComesSpec)) foldComesUptoCard

/-- THE SECOND FORM's CARD OF 'capstanlaw18.FoldWhole'. -/
def foldWholeUptoCard : Claim7 := { stood := { row := foldWholeUptoRow, standIns := [], harness := (true, "5138aafc156c57295bebf1d628f1fe641eae18fc08ee43f218ff616f63d777b0"), looks := true }, kinds := [], alts := [], laidByText := true, laidKinds := [.handle], laidTests := true, laidLooks := .later }
def FoldWholeUptoCardSaid : Prop := Claim7.holds Tryz.pinned (.plain (OpenSpec.upto foldWholeSpec)) foldWholeUptoCard
end Rows
end Go.Proofs.YtepncopdjodfgaaGreatDoor

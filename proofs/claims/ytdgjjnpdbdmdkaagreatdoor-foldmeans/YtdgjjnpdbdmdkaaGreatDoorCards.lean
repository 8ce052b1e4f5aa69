/-
  DERIVED. GIVEN WITH THE SEED: THE CARDS: each row of YtdgjjnpdbdmdkaaGreatDoorRows.lean that lists a variable, with what it lists TIED to the program's text (the seventh form; the later family's looks); each row that meets fmt, with fmt's text TOLD by the authors' own Lean function (tested against real Go, not proved from fmt's source: count such statements apart). THE CARD IS WHAT COUNTS. Prove the row's statement (the work); the ties are given (YtdgjjnpdbdmdkaaGreatDoorTie.lean); close each card by the builder's one call (the guide's Derived/Test/ToyasCard.lean, 'card_holds'). Laid BY PROGRAM, IN A SANDBOX (cutbox-door.mjs). By AI agents, Wed Nov 11 2026. No macro, syntax, notation, axiom, sorry.
-/
import Derived.Test.YtdgjjnpdbdmdkaaGreatDoorRows
import GoSem.ClaimSeven
namespace Go.Proofs.YtdgjjnpdbdmdkaaGreatDoor
namespace Rows

/-- THE TIED CARD OF 'capstanlaw18.FoldPlans'. -/
def foldPlansCard : Claim7 := { stood := { row := foldPlansRow, standIns := [], harness := (true, "f9e2e62210cdce3262f362f538010c2ca913fdaeefa6eae8f3ae98482867c607"), looks := true }, kinds := [], alts := [], laidByText := true, laidKinds := [.handle, .data], laidTests := true, laidLooks := .later }
def FoldPlansCardSaid : Prop := Claim7.holds Tryz.pinned (.plain (OpenSpec.ofChange foldPlansSpec)) foldPlansCard

/-- THE TIED CARD OF 'capstanlaw18.FoldMeans'. -/
def foldMeansCard : Claim7 := { stood := { row := foldMeansRow, standIns := [], harness := (true, "f9e2e62210cdce3262f362f538010c2ca913fdaeefa6eae8f3ae98482867c607"), looks := true }, kinds := [], alts := [], laidByText := true, laidKinds := [.handle, .data], laidTests := true, laidLooks := .later }
def FoldMeansCardSaid : Prop := Claim7.holds Tryz.pinned (.plain (OpenSpec.ofChange foldMeansSpec)) foldMeansCard

/-- THE SECOND FORM's CARD OF 'capstanlaw18.FoldPlans'. -/
def foldPlansUptoCard : Claim7 := { stood := { row := foldPlansUptoRow, standIns := [], harness := (true, "f9e2e62210cdce3262f362f538010c2ca913fdaeefa6eae8f3ae98482867c607"), looks := true }, kinds := [], alts := [], laidByText := true, laidKinds := [.handle, .data], laidTests := true, laidLooks := .later }
def FoldPlansUptoCardSaid : Prop := Claim7.holds Tryz.pinned (.plain (OpenSpec.upto foldPlansSpec)) foldPlansUptoCard

/-- THE SECOND FORM's CARD OF 'capstanlaw18.FoldMeans'. -/
def foldMeansUptoCard : Claim7 := { stood := { row := foldMeansUptoRow, standIns := [], harness := (true, "f9e2e62210cdce3262f362f538010c2ca913fdaeefa6eae8f3ae98482867c607"), looks := true }, kinds := [], alts := [], laidByText := true, laidKinds := [.handle, .data], laidTests := true, laidLooks := .later }
def FoldMeansUptoCardSaid : Prop := Claim7.holds Tryz.pinned (.plain (OpenSpec.upto foldMeansSpec)) foldMeansUptoCard
end Rows
end Go.Proofs.YtdgjjnpdbdmdkaaGreatDoor

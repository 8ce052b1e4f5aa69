/-
  DERIVED. GIVEN WITH THE SEED: THE CARDS: each row of YtkbmgloilckdhaaGreatDoorRows.lean that lists a variable, with what it lists TIED to the program's text (the seventh form; the later family's looks); each row that meets fmt, with fmt's text TOLD by the authors' own Lean function (tested against real Go, not proved from fmt's source: count such statements apart). THE CARD IS WHAT COUNTS. Prove the row's statement (the work); the ties are given (YtkbmgloilckdhaaGreatDoorTie.lean); close each card by the builder's one call (the guide's Derived/Test/ToyasCard.lean, 'card_holds'). Laid BY PROGRAM, IN A SANDBOX (cutbox-door.mjs). By AI agents, Wed Nov 11 2026. No macro, syntax, notation, axiom, sorry.
-/
import Derived.Test.YtkbmgloilckdhaaGreatDoorRows
import GoSem.ClaimSeven
namespace Go.Proofs.YtkbmgloilckdhaaGreatDoor
namespace Rows

/-- THE TIED CARD OF 'capstanlaw18.FoldPlans'. -/
def foldPlansCard : Claim7 := { stood := { row := foldPlansRow, standIns := [], harness := (true, "b665187bfa2e7318435134a3f270ee006526b3a7468504d0c515b330694e3a4c"), looks := true }, kinds := [], alts := [], laidByText := true, laidKinds := [.handle, .data], laidTests := true, laidLooks := .later }
def FoldPlansCardSaid : Prop := Claim7.holds Tryz.pinned (.plain (OpenSpec.ofChange foldPlansSpec)) foldPlansCard

/-- THE SECOND FORM's CARD OF 'capstanlaw18.FoldPlans'. -/
def foldPlansUptoCard : Claim7 := { stood := { row := foldPlansUptoRow, standIns := [], harness := (true, "b665187bfa2e7318435134a3f270ee006526b3a7468504d0c515b330694e3a4c"), looks := true }, kinds := [], alts := [], laidByText := true, laidKinds := [.handle, .data], laidTests := true, laidLooks := .later }
def FoldPlansUptoCardSaid : Prop := Claim7.holds Tryz.pinned (.plain (OpenSpec.upto foldPlansSpec)) foldPlansUptoCard
end Rows
end Go.Proofs.YtkbmgloilckdhaaGreatDoor

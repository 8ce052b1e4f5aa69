/-
  DERIVED. GIVEN WITH THE SEED: THE CARDS: each row of YtddinknnaakmmabDoorRows.lean that lists a variable, with what it lists TIED to the program's text (the seventh form; the later family's looks); each row that meets fmt, with fmt's text TOLD by the authors' own Lean function (tested against real Go, not proved from fmt's source: count such statements apart). THE CARD IS WHAT COUNTS. Prove the row's statement (the work); the ties are given (YtddinknnaakmmabDoorTie.lean); close each card by the builder's one call (the guide's Derived/Test/ToyasCard.lean, 'card_holds'). Laid BY PROGRAM, IN A SANDBOX (cutbox-door.mjs). By AI agents, Wed Nov 11 2026. No macro, syntax, notation, axiom, sorry.
-/
import Derived.Test.YtddinknnaakmmabDoorRows
import GoSem.ClaimSeven
namespace Go.Proofs.YtddinknnaakmmabDoor
namespace Rows

/-- THE TIED CARD OF 'capstanlaw04.CronCycle'. -/
def cronCycleCard : Claim7 := { stood := { row := cronCycleRow, standIns := [], harness := (true, "a7ea5479ac0eb444a18f6b860b4e7537f4e6bf3e5e61770c20080609901332a5"), looks := false }, kinds := [], alts := [], laidByText := true, laidKinds := [.data, .data, .data, .data, .data], laidTests := true, laidLooks := .later }
def CronCycleCardSaid : Prop := Claim7.holds Tryd.pinned (.plain (OpenSpec.ofChange cronCycleSpec)) cronCycleCard

/-- THE SECOND FORM's CARD OF 'capstanlaw04.CronCycle'. -/
def cronCycleUptoCard : Claim7 := { stood := { row := cronCycleUptoRow, standIns := [], harness := (true, "a7ea5479ac0eb444a18f6b860b4e7537f4e6bf3e5e61770c20080609901332a5"), looks := false }, kinds := [], alts := [], laidByText := true, laidKinds := [.data, .data, .data, .data, .data], laidTests := true, laidLooks := .later }
def CronCycleUptoCardSaid : Prop := Claim7.holds Tryd.pinned (.plain (OpenSpec.upto cronCycleSpec)) cronCycleUptoCard
end Rows
end Go.Proofs.YtddinknnaakmmabDoor

/-
  DERIVED. GIVEN WITH THE SEED: THE CARDS: each row of YtigldebdljfnbaaDoorRows.lean that lists a variable, with what it lists TIED to the program's text (the seventh form; the later family's looks); each row that meets fmt, with fmt's text TOLD by the authors' own Lean function (tested against real Go, not proved from fmt's source: count such statements apart). THE CARD IS WHAT COUNTS. Prove the row's statement (the work); the ties are given (YtigldebdljfnbaaDoorTie.lean); close each card by the builder's one call (the guide's Derived/Test/ToyasCard.lean, 'card_holds'). Laid BY PROGRAM, IN A SANDBOX (cutbox-door.mjs). By AI agents, Wed Nov 11 2026. No macro, syntax, notation, axiom, sorry.
-/
import Derived.Test.YtigldebdljfnbaaDoorRows
import GoSem.ClaimSeven
namespace Go.Proofs.YtigldebdljfnbaaDoor
namespace Rows

/-- THE TIED CARD OF 'capstanlaw23.VerifyEmits'. -/
def verifyEmitsCard : Claim7 := { stood := { row := verifyEmitsRow, standIns := [], harness := (true, "f5e591e781e836c306ae56c81a78eb8cdc73d491eb6654410e282eb1ad4d955e"), looks := false }, kinds := [], alts := [], laidByText := true, laidKinds := [.data, .data], laidTests := true, laidLooks := .later }
def VerifyEmitsCardSaid : Prop := Claim7.holds Tryd.pinned (.plain (OpenSpec.ofChange verifyEmitsSpec)) verifyEmitsCard

/-- THE SECOND FORM's CARD OF 'capstanlaw23.VerifyEmits'. -/
def verifyEmitsUptoCard : Claim7 := { stood := { row := verifyEmitsUptoRow, standIns := [], harness := (true, "f5e591e781e836c306ae56c81a78eb8cdc73d491eb6654410e282eb1ad4d955e"), looks := false }, kinds := [], alts := [], laidByText := true, laidKinds := [.data, .data], laidTests := true, laidLooks := .later }
def VerifyEmitsUptoCardSaid : Prop := Claim7.holds Tryd.pinned (.plain (OpenSpec.upto verifyEmitsSpec)) verifyEmitsUptoCard
end Rows
end Go.Proofs.YtigldebdljfnbaaDoor

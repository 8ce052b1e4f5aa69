/-
  DERIVED. GIVEN WITH THE SEED: THE CARDS: each row of YtigldebdljfnbaaGreatDoorRows.lean that lists a variable, with what it lists TIED to the program's text (the seventh form; the later family's looks); each row that meets fmt, with fmt's text TOLD by the authors' own Lean function (tested against real Go, not proved from fmt's source: count such statements apart). THE CARD IS WHAT COUNTS. Prove the row's statement (the work); the ties are given (YtigldebdljfnbaaGreatDoorTie.lean); close each card by the builder's one call (the guide's Derived/Test/ToyasCard.lean, 'card_holds'). Laid BY PROGRAM, IN A SANDBOX (cutbox-door.mjs). By AI agents, Wed Nov 11 2026. No macro, syntax, notation, axiom, sorry.
-/
import Derived.Test.YtigldebdljfnbaaGreatDoorRows
import GoSem.ClaimSeven
namespace Go.Proofs.YtigldebdljfnbaaGreatDoor
namespace Rows

/-- THE TIED CARD OF 'capstanlaw21.CodeEmits'. -/
def codeEmitsCard : Claim7 := { stood := { row := codeEmitsRow, standIns := [], harness := (true, "f472e6f5a566cd0fd5686447fba64aafe4dd616807f344598633db0513c6cecf"), looks := true }, kinds := [], alts := [], laidByText := true, laidKinds := [.handle, .data, .data], laidTests := true, laidLooks := .later }
def CodeEmitsCardSaid : Prop := Claim7.holds Tryz.pinned (.plain (OpenSpec.ofChange codeEmitsSpec)) codeEmitsCard

/-- THE TIED CARD OF 'capstanlaw21.CodeKeeps'. -/
def codeKeepsCard : Claim7 := { stood := { row := codeKeepsRow, standIns := [], harness := (true, "f472e6f5a566cd0fd5686447fba64aafe4dd616807f344598633db0513c6cecf"), looks := true }, kinds := [], alts := [], laidByText := true, laidKinds := [.handle, .data, .data], laidTests := true, laidLooks := .later }
def CodeKeepsCardSaid : Prop := Claim7.holds Tryz.pinned (.plain (OpenSpec.ofChange codeKeepsSpec)) codeKeepsCard

/-- THE SECOND FORM's CARD OF 'capstanlaw21.CodeEmits'. -/
def codeEmitsUptoCard : Claim7 := { stood := { row := codeEmitsUptoRow, standIns := [], harness := (true, "f472e6f5a566cd0fd5686447fba64aafe4dd616807f344598633db0513c6cecf"), looks := true }, kinds := [], alts := [], laidByText := true, laidKinds := [.handle, .data, .data], laidTests := true, laidLooks := .later }
def CodeEmitsUptoCardSaid : Prop := Claim7.holds Tryz.pinned (.plain (OpenSpec.upto codeEmitsSpec)) codeEmitsUptoCard

/-- THE SECOND FORM's CARD OF 'capstanlaw21.CodeKeeps'. -/
def codeKeepsUptoCard : Claim7 := { stood := { row := codeKeepsUptoRow, standIns := [], harness := (true, "f472e6f5a566cd0fd5686447fba64aafe4dd616807f344598633db0513c6cecf"), looks := true }, kinds := [], alts := [], laidByText := true, laidKinds := [.handle, .data, .data], laidTests := true, laidLooks := .later }
def CodeKeepsUptoCardSaid : Prop := Claim7.holds Tryz.pinned (.plain (OpenSpec.upto codeKeepsSpec)) codeKeepsUptoCard
end Rows
end Go.Proofs.YtigldebdljfnbaaGreatDoor

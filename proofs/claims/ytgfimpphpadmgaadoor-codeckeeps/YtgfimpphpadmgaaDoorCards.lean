/-
  DERIVED. GIVEN WITH THE SEED: THE CARDS: each row of YtgfimpphpadmgaaDoorRows.lean that lists a variable, with what it lists TIED to the program's text (the seventh form; the later family's looks); each row that meets fmt, with fmt's text TOLD by the authors' own Lean function (tested against real Go, not proved from fmt's source: count such statements apart). THE CARD IS WHAT COUNTS. Prove the row's statement (the work); the ties are given (YtgfimpphpadmgaaDoorTie.lean); close each card by the builder's one call (the guide's Derived/Test/ToyasCard.lean, 'card_holds'). Laid BY PROGRAM, IN A SANDBOX (cutbox-door.mjs). By AI agents, Wed Nov 11 2026. No macro, syntax, notation, axiom, sorry.
-/
import Derived.Test.YtgfimpphpadmgaaDoorRows
import GoSem.ClaimSeven
namespace Go.Proofs.YtgfimpphpadmgaaDoor
namespace Rows

/-- THE TIED CARD OF 'capstanlaw22.CodecEncodes'. -/
def codecEncodesCard : Claim7 := { stood := { row := codecEncodesRow, standIns := [], harness := (true, "14b0161754cf7db12c9f85c31a69f40f5f2e9d532ae37ad749ff35eafc8025cb"), looks := false }, kinds := [], alts := [], laidByText := true, laidKinds := [.sentinel], laidTests := true, laidLooks := .later }
def CodecEncodesCardSaid : Prop := Claim7.holds Tryd.pinned (.plain (OpenSpec.ofChange codecEncodesSpec)) codecEncodesCard

/-- THE TIED CARD OF 'capstanlaw22.CodecDecodes'. -/
def codecDecodesCard : Claim7 := { stood := { row := codecDecodesRow, standIns := [], harness := (true, "14b0161754cf7db12c9f85c31a69f40f5f2e9d532ae37ad749ff35eafc8025cb"), looks := false }, kinds := [], alts := [], laidByText := true, laidKinds := [.sentinel], laidTests := true, laidLooks := .later }
def CodecDecodesCardSaid : Prop := Claim7.holds Tryd.pinned (.plain (OpenSpec.ofChange codecDecodesSpec)) codecDecodesCard

/-- THE TIED CARD OF 'capstanlaw22.CodecBack'. -/
def codecBackCard : Claim7 := { stood := { row := codecBackRow, standIns := [], harness := (true, "14b0161754cf7db12c9f85c31a69f40f5f2e9d532ae37ad749ff35eafc8025cb"), looks := false }, kinds := [], alts := [], laidByText := true, laidKinds := [.sentinel], laidTests := true, laidLooks := .later }
def CodecBackCardSaid : Prop := Claim7.holds Tryd.pinned (.plain (OpenSpec.ofChange codecBackSpec)) codecBackCard

/-- THE TIED CARD OF 'capstanlaw22.CodecCut'. -/
def codecCutCard : Claim7 := { stood := { row := codecCutRow, standIns := [], harness := (true, "14b0161754cf7db12c9f85c31a69f40f5f2e9d532ae37ad749ff35eafc8025cb"), looks := false }, kinds := [], alts := [], laidByText := true, laidKinds := [.sentinel], laidTests := true, laidLooks := .later }
def CodecCutCardSaid : Prop := Claim7.holds Tryd.pinned (.plain (OpenSpec.ofChange codecCutSpec)) codecCutCard

/-- THE TIED CARD OF 'capstanlaw22.CodecTurns'. -/
def codecTurnsCard : Claim7 := { stood := { row := codecTurnsRow, standIns := [], harness := (true, "14b0161754cf7db12c9f85c31a69f40f5f2e9d532ae37ad749ff35eafc8025cb"), looks := false }, kinds := [], alts := [], laidByText := true, laidKinds := [.sentinel], laidTests := true, laidLooks := .later }
def CodecTurnsCardSaid : Prop := Claim7.holds Tryd.pinned (.plain (OpenSpec.ofChange codecTurnsSpec)) codecTurnsCard

/-- THE TIED CARD OF 'capstanlaw22.CodecKeeps'. -/
def codecKeepsCard : Claim7 := { stood := { row := codecKeepsRow, standIns := [], harness := (true, "14b0161754cf7db12c9f85c31a69f40f5f2e9d532ae37ad749ff35eafc8025cb"), looks := false }, kinds := [], alts := [], laidByText := true, laidKinds := [.sentinel], laidTests := true, laidLooks := .later }
def CodecKeepsCardSaid : Prop := Claim7.holds Tryd.pinned (.plain (OpenSpec.ofChange codecKeepsSpec)) codecKeepsCard

/-- THE SECOND FORM's CARD OF 'capstanlaw22.CodecEncodes'. -/
def codecEncodesUptoCard : Claim7 := { stood := { row := codecEncodesUptoRow, standIns := [], harness := (true, "14b0161754cf7db12c9f85c31a69f40f5f2e9d532ae37ad749ff35eafc8025cb"), looks := false }, kinds := [], alts := [], laidByText := true, laidKinds := [.sentinel], laidTests := true, laidLooks := .later }
def CodecEncodesUptoCardSaid : Prop := Claim7.holds Tryd.pinned (.plain (OpenSpec.upto codecEncodesSpec)) codecEncodesUptoCard

/-- THE SECOND FORM's CARD OF 'capstanlaw22.CodecDecodes'. -/
def codecDecodesUptoCard : Claim7 := { stood := { row := codecDecodesUptoRow, standIns := [], harness := (true, "14b0161754cf7db12c9f85c31a69f40f5f2e9d532ae37ad749ff35eafc8025cb"), looks := false }, kinds := [], alts := [], laidByText := true, laidKinds := [.sentinel], laidTests := true, laidLooks := .later }
def CodecDecodesUptoCardSaid : Prop := Claim7.holds Tryd.pinned (.plain (OpenSpec.upto codecDecodesSpec)) codecDecodesUptoCard

/-- THE SECOND FORM's CARD OF 'capstanlaw22.CodecBack'. -/
def codecBackUptoCard : Claim7 := { stood := { row := codecBackUptoRow, standIns := [], harness := (true, "14b0161754cf7db12c9f85c31a69f40f5f2e9d532ae37ad749ff35eafc8025cb"), looks := false }, kinds := [], alts := [], laidByText := true, laidKinds := [.sentinel], laidTests := true, laidLooks := .later }
def CodecBackUptoCardSaid : Prop := Claim7.holds Tryd.pinned (.plain (OpenSpec.upto codecBackSpec)) codecBackUptoCard

/-- THE SECOND FORM's CARD OF 'capstanlaw22.CodecCut'. -/
def codecCutUptoCard : Claim7 := { stood := { row := codecCutUptoRow, standIns := [], harness := (true, "14b0161754cf7db12c9f85c31a69f40f5f2e9d532ae37ad749ff35eafc8025cb"), looks := false }, kinds := [], alts := [], laidByText := true, laidKinds := [.sentinel], laidTests := true, laidLooks := .later }
def CodecCutUptoCardSaid : Prop := Claim7.holds Tryd.pinned (.plain (OpenSpec.upto codecCutSpec)) codecCutUptoCard

/-- THE SECOND FORM's CARD OF 'capstanlaw22.CodecTurns'. -/
def codecTurnsUptoCard : Claim7 := { stood := { row := codecTurnsUptoRow, standIns := [], harness := (true, "14b0161754cf7db12c9f85c31a69f40f5f2e9d532ae37ad749ff35eafc8025cb"), looks := false }, kinds := [], alts := [], laidByText := true, laidKinds := [.sentinel], laidTests := true, laidLooks := .later }
def CodecTurnsUptoCardSaid : Prop := Claim7.holds Tryd.pinned (.plain (OpenSpec.upto codecTurnsSpec)) codecTurnsUptoCard

/-- THE SECOND FORM's CARD OF 'capstanlaw22.CodecKeeps'. -/
def codecKeepsUptoCard : Claim7 := { stood := { row := codecKeepsUptoRow, standIns := [], harness := (true, "14b0161754cf7db12c9f85c31a69f40f5f2e9d532ae37ad749ff35eafc8025cb"), looks := false }, kinds := [], alts := [], laidByText := true, laidKinds := [.sentinel], laidTests := true, laidLooks := .later }
def CodecKeepsUptoCardSaid : Prop := Claim7.holds Tryd.pinned (.plain (OpenSpec.upto codecKeepsSpec)) codecKeepsUptoCard
end Rows
end Go.Proofs.YtgfimpphpadmgaaDoor

/-
  DERIVED. GIVEN WITH THE SEED: THE CARDS: each row of YthfnjlfhaibbeaaDoorRows.lean that lists a variable, with what it lists TIED to the program's text (the seventh form; the later family's looks); each row that meets fmt, with fmt's text TOLD by the authors' own Lean function (tested against real Go, not proved from fmt's source: count such statements apart). THE CARD IS WHAT COUNTS. Prove the row's statement (the work); the ties are given (YthfnjlfhaibbeaaDoorTie.lean); close each card by the builder's one call (the guide's Derived/Test/ToyasCard.lean, 'card_holds'). Laid BY PROGRAM, IN A SANDBOX (cutbox-door.mjs). By AI agents, Wed Nov 11 2026. No macro, syntax, notation, axiom, sorry.
-/
import Derived.Test.YthfnjlfhaibbeaaDoorRows
import GoSem.ClaimSeven
namespace Go.Proofs.YthfnjlfhaibbeaaDoor
namespace Rows

/-- THE TIED CARD OF 'capstanlaw22.CodecDecodes'. -/
def codecDecodesCard : Claim7 := { stood := { row := codecDecodesRow, standIns := [], harness := (true, "92e25377fa6dd60fad9925d391cf6308096aec42c4c70ac9082878d400161466"), looks := false }, kinds := [], alts := [], laidByText := true, laidKinds := [.sentinel], laidTests := true, laidLooks := .later }
def CodecDecodesCardSaid : Prop := Claim7.holds Tryd.pinned (.plain (OpenSpec.ofChange codecDecodesSpec)) codecDecodesCard

/-- THE TIED CARD OF 'capstanlaw23.VerifyChecks'. -/
def verifyChecksCard : Claim7 := { stood := { row := verifyChecksRow, standIns := [], harness := (true, "92e25377fa6dd60fad9925d391cf6308096aec42c4c70ac9082878d400161466"), looks := false }, kinds := [], alts := [], laidByText := true, laidKinds := [.data, .data], laidTests := true, laidLooks := .later }
def VerifyChecksCardSaid : Prop := Claim7.holds Tryd.pinned (.plain (OpenSpec.ofChange verifyChecksSpec)) verifyChecksCard

/-- THE TIED CARD OF 'capstanlaw23.VerifyBytes'. -/
def verifyBytesCard : Claim7 := { stood := { row := verifyBytesRow, standIns := [], harness := (true, "92e25377fa6dd60fad9925d391cf6308096aec42c4c70ac9082878d400161466"), looks := false }, kinds := [], alts := [], laidByText := true, laidKinds := [.data, .data], laidTests := true, laidLooks := .later }
def VerifyBytesCardSaid : Prop := Claim7.holds Tryd.pinned (.plain (OpenSpec.ofChange verifyBytesSpec)) verifyBytesCard

/-- THE TIED CARD OF 'capstanlaw23.VerifyDown'. -/
def verifyDownCard : Claim7 := { stood := { row := verifyDownRow, standIns := [], harness := (true, "92e25377fa6dd60fad9925d391cf6308096aec42c4c70ac9082878d400161466"), looks := false }, kinds := [], alts := [], laidByText := true, laidKinds := [.data, .data], laidTests := true, laidLooks := .later }
def VerifyDownCardSaid : Prop := Claim7.holds Tryd.pinned (.plain (OpenSpec.ofChange verifyDownSpec)) verifyDownCard

/-- THE TIED CARD OF 'capstanlaw23.VerifyKeeps'. -/
def verifyKeepsCard : Claim7 := { stood := { row := verifyKeepsRow, standIns := [], harness := (true, "92e25377fa6dd60fad9925d391cf6308096aec42c4c70ac9082878d400161466"), looks := false }, kinds := [], alts := [], laidByText := true, laidKinds := [.data, .data], laidTests := true, laidLooks := .later }
def VerifyKeepsCardSaid : Prop := Claim7.holds Tryd.pinned (.plain (OpenSpec.ofChange verifyKeepsSpec)) verifyKeepsCard

/-- THE SECOND FORM's CARD OF 'capstanlaw22.CodecDecodes'. -/
def codecDecodesUptoCard : Claim7 := { stood := { row := codecDecodesUptoRow, standIns := [], harness := (true, "92e25377fa6dd60fad9925d391cf6308096aec42c4c70ac9082878d400161466"), looks := false }, kinds := [], alts := [], laidByText := true, laidKinds := [.sentinel], laidTests := true, laidLooks := .later }
def CodecDecodesUptoCardSaid : Prop := Claim7.holds Tryd.pinned (.plain (OpenSpec.upto codecDecodesSpec)) codecDecodesUptoCard

/-- THE SECOND FORM's CARD OF 'capstanlaw23.VerifyChecks'. -/
def verifyChecksUptoCard : Claim7 := { stood := { row := verifyChecksUptoRow, standIns := [], harness := (true, "92e25377fa6dd60fad9925d391cf6308096aec42c4c70ac9082878d400161466"), looks := false }, kinds := [], alts := [], laidByText := true, laidKinds := [.data, .data], laidTests := true, laidLooks := .later }
def VerifyChecksUptoCardSaid : Prop := Claim7.holds Tryd.pinned (.plain (OpenSpec.upto verifyChecksSpec)) verifyChecksUptoCard

/-- THE SECOND FORM's CARD OF 'capstanlaw23.VerifyBytes'. -/
def verifyBytesUptoCard : Claim7 := { stood := { row := verifyBytesUptoRow, standIns := [], harness := (true, "92e25377fa6dd60fad9925d391cf6308096aec42c4c70ac9082878d400161466"), looks := false }, kinds := [], alts := [], laidByText := true, laidKinds := [.data, .data], laidTests := true, laidLooks := .later }
def VerifyBytesUptoCardSaid : Prop := Claim7.holds Tryd.pinned (.plain (OpenSpec.upto verifyBytesSpec)) verifyBytesUptoCard

/-- THE SECOND FORM's CARD OF 'capstanlaw23.VerifyDown'. -/
def verifyDownUptoCard : Claim7 := { stood := { row := verifyDownUptoRow, standIns := [], harness := (true, "92e25377fa6dd60fad9925d391cf6308096aec42c4c70ac9082878d400161466"), looks := false }, kinds := [], alts := [], laidByText := true, laidKinds := [.data, .data], laidTests := true, laidLooks := .later }
def VerifyDownUptoCardSaid : Prop := Claim7.holds Tryd.pinned (.plain (OpenSpec.upto verifyDownSpec)) verifyDownUptoCard

/-- THE SECOND FORM's CARD OF 'capstanlaw23.VerifyKeeps'. -/
def verifyKeepsUptoCard : Claim7 := { stood := { row := verifyKeepsUptoRow, standIns := [], harness := (true, "92e25377fa6dd60fad9925d391cf6308096aec42c4c70ac9082878d400161466"), looks := false }, kinds := [], alts := [], laidByText := true, laidKinds := [.data, .data], laidTests := true, laidLooks := .later }
def VerifyKeepsUptoCardSaid : Prop := Claim7.holds Tryd.pinned (.plain (OpenSpec.upto verifyKeepsSpec)) verifyKeepsUptoCard
end Rows
end Go.Proofs.YthfnjlfhaibbeaaDoor

/-
  DERIVED. GIVEN WITH THE SEED: THE CARDS: each row of YtbddbnjhmdbkbaaGreatDoorRows.lean that lists a variable, with what it lists TIED to the program's text (the seventh form; the later family's looks); each row that meets fmt, with fmt's text TOLD by the authors' own Lean function (tested against real Go, not proved from fmt's source: count such statements apart). THE CARD IS WHAT COUNTS. Prove the row's statement (the work); the ties are given (YtbddbnjhmdbkbaaGreatDoorTie.lean); close each card by the builder's one call (the guide's Derived/Test/ToyasCard.lean, 'card_holds'). Laid BY PROGRAM, IN A SANDBOX (cutbox-door.mjs). By AI agents, Wed Nov 11 2026. No macro, syntax, notation, axiom, sorry.
-/
import Derived.Test.YtbddbnjhmdbkbaaGreatDoorRows
import GoSem.ClaimSeven
namespace Go.Proofs.YtbddbnjhmdbkbaaGreatDoor
namespace Rows

/-- THE TIED CARD OF 'capstanlaw17.MeanSees'. -/
def meanSeesCard : Claim7 := { stood := { row := meanSeesRow, standIns := [], harness := (true, "863b1096bebd528f31f942dcc556688733790cccd1cba30071d784e2474047dc"), looks := true }, kinds := [], alts := [], laidByText := true, laidKinds := [.data, .handle, .data], laidTests := true, laidLooks := .later }
def MeanSeesCardSaid : Prop := Claim7.holds Tryz.pinned (.plain (OpenSpec.ofChange meanSeesSpec)) meanSeesCard

/-- THE TIED CARD OF 'capstanlaw17.MeanDecides'. -/
def meanDecidesCard : Claim7 := { stood := { row := meanDecidesRow, standIns := [], harness := (true, "863b1096bebd528f31f942dcc556688733790cccd1cba30071d784e2474047dc"), looks := true }, kinds := [], alts := [], laidByText := true, laidKinds := [.data, .handle, .data], laidTests := true, laidLooks := .later }
def MeanDecidesCardSaid : Prop := Claim7.holds Tryz.pinned (.plain (OpenSpec.ofChange meanDecidesSpec)) meanDecidesCard

/-- THE TIED CARD OF 'capstanlaw21.CodeEmits'. -/
def codeEmitsCard : Claim7 := { stood := { row := codeEmitsRow, standIns := [], harness := (true, "863b1096bebd528f31f942dcc556688733790cccd1cba30071d784e2474047dc"), looks := true }, kinds := [], alts := [], laidByText := true, laidKinds := [.handle, .data, .data], laidTests := true, laidLooks := .later }
def CodeEmitsCardSaid : Prop := Claim7.holds Tryz.pinned (.plain (OpenSpec.ofChange codeEmitsSpec)) codeEmitsCard

/-- THE TIED CARD OF 'capstanlaw21.CodeForward'. -/
def codeForwardCard : Claim7 := { stood := { row := codeForwardRow, standIns := [], harness := (true, "863b1096bebd528f31f942dcc556688733790cccd1cba30071d784e2474047dc"), looks := true }, kinds := [], alts := [], laidByText := true, laidKinds := [.handle, .data, .data], laidTests := true, laidLooks := .later }
def CodeForwardCardSaid : Prop := Claim7.holds Tryz.pinned (.plain (OpenSpec.ofChange codeForwardSpec)) codeForwardCard

/-- THE TIED CARD OF 'capstanlaw21.CodeConstants'. -/
def codeConstantsCard : Claim7 := { stood := { row := codeConstantsRow, standIns := [], harness := (true, "863b1096bebd528f31f942dcc556688733790cccd1cba30071d784e2474047dc"), looks := true }, kinds := [], alts := [], laidByText := true, laidKinds := [.handle, .data, .data], laidTests := true, laidLooks := .later }
def CodeConstantsCardSaid : Prop := Claim7.holds Tryz.pinned (.plain (OpenSpec.ofChange codeConstantsSpec)) codeConstantsCard

/-- THE TIED CARD OF 'capstanlaw21.CodeKeeps'. -/
def codeKeepsCard : Claim7 := { stood := { row := codeKeepsRow, standIns := [], harness := (true, "863b1096bebd528f31f942dcc556688733790cccd1cba30071d784e2474047dc"), looks := true }, kinds := [], alts := [], laidByText := true, laidKinds := [.handle, .data, .data], laidTests := true, laidLooks := .later }
def CodeKeepsCardSaid : Prop := Claim7.holds Tryz.pinned (.plain (OpenSpec.ofChange codeKeepsSpec)) codeKeepsCard

/-- THE SECOND FORM's CARD OF 'capstanlaw17.MeanSees'. -/
def meanSeesUptoCard : Claim7 := { stood := { row := meanSeesUptoRow, standIns := [], harness := (true, "863b1096bebd528f31f942dcc556688733790cccd1cba30071d784e2474047dc"), looks := true }, kinds := [], alts := [], laidByText := true, laidKinds := [.data, .handle, .data], laidTests := true, laidLooks := .later }
def MeanSeesUptoCardSaid : Prop := Claim7.holds Tryz.pinned (.plain (OpenSpec.upto meanSeesSpec)) meanSeesUptoCard

/-- THE SECOND FORM's CARD OF 'capstanlaw17.MeanDecides'. -/
def meanDecidesUptoCard : Claim7 := { stood := { row := meanDecidesUptoRow, standIns := [], harness := (true, "863b1096bebd528f31f942dcc556688733790cccd1cba30071d784e2474047dc"), looks := true }, kinds := [], alts := [], laidByText := true, laidKinds := [.data, .handle, .data], laidTests := true, laidLooks := .later }
def MeanDecidesUptoCardSaid : Prop := Claim7.holds Tryz.pinned (.plain (OpenSpec.upto meanDecidesSpec)) meanDecidesUptoCard

/-- THE SECOND FORM's CARD OF 'capstanlaw21.CodeEmits'. -/
def codeEmitsUptoCard : Claim7 := { stood := { row := codeEmitsUptoRow, standIns := [], harness := (true, "863b1096bebd528f31f942dcc556688733790cccd1cba30071d784e2474047dc"), looks := true }, kinds := [], alts := [], laidByText := true, laidKinds := [.handle, .data, .data], laidTests := true, laidLooks := .later }
def CodeEmitsUptoCardSaid : Prop := Claim7.holds Tryz.pinned (.plain (OpenSpec.upto codeEmitsSpec)) codeEmitsUptoCard

/-- THE SECOND FORM's CARD OF 'capstanlaw21.CodeForward'. -/
def codeForwardUptoCard : Claim7 := { stood := { row := codeForwardUptoRow, standIns := [], harness := (true, "863b1096bebd528f31f942dcc556688733790cccd1cba30071d784e2474047dc"), looks := true }, kinds := [], alts := [], laidByText := true, laidKinds := [.handle, .data, .data], laidTests := true, laidLooks := .later }
def CodeForwardUptoCardSaid : Prop := Claim7.holds Tryz.pinned (.plain (OpenSpec.upto codeForwardSpec)) codeForwardUptoCard

/-- THE SECOND FORM's CARD OF 'capstanlaw21.CodeConstants'. -/
def codeConstantsUptoCard : Claim7 := { stood := { row := codeConstantsUptoRow, standIns := [], harness := (true, "863b1096bebd528f31f942dcc556688733790cccd1cba30071d784e2474047dc"), looks := true }, kinds := [], alts := [], laidByText := true, laidKinds := [.handle, .data, .data], laidTests := true, laidLooks := .later }
def CodeConstantsUptoCardSaid : Prop := Claim7.holds Tryz.pinned (.plain (OpenSpec.upto codeConstantsSpec)) codeConstantsUptoCard

/-- THE SECOND FORM's CARD OF 'capstanlaw21.CodeKeeps'. -/
def codeKeepsUptoCard : Claim7 := { stood := { row := codeKeepsUptoRow, standIns := [], harness := (true, "863b1096bebd528f31f942dcc556688733790cccd1cba30071d784e2474047dc"), looks := true }, kinds := [], alts := [], laidByText := true, laidKinds := [.handle, .data, .data], laidTests := true, laidLooks := .later }
def CodeKeepsUptoCardSaid : Prop := Claim7.holds Tryz.pinned (.plain (OpenSpec.upto codeKeepsSpec)) codeKeepsUptoCard
end Rows
end Go.Proofs.YtbddbnjhmdbkbaaGreatDoor

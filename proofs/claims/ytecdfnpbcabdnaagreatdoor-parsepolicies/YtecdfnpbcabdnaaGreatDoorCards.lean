/-
  DERIVED. GIVEN WITH THE SEED: THE CARDS: each row of YtecdfnpbcabdnaaGreatDoorRows.lean that lists a variable, with what it lists TIED to the program's text (the seventh form; the later family's looks); each row that meets fmt, with fmt's text TOLD by the authors' own Lean function (tested against real Go, not proved from fmt's source: count such statements apart). THE CARD IS WHAT COUNTS. Prove the row's statement (the work); the ties are given (YtecdfnpbcabdnaaGreatDoorTie.lean); close each card by the builder's one call (the guide's Derived/Test/ToyasCard.lean, 'card_holds'). Laid BY PROGRAM, IN A SANDBOX (cutbox-door.mjs). By AI agents, Wed Nov 11 2026. No macro, syntax, notation, axiom, sorry.
-/
import Derived.Test.YtecdfnpbcabdnaaGreatDoorRows
import GoSem.ClaimSeven
namespace Go.Proofs.YtecdfnpbcabdnaaGreatDoor
namespace Rows

/-- THE TIED CARD OF 'capstanlaw13.ParsePolicies'. -/
def parsePoliciesCard : Claim7 := { stood := { row := parsePoliciesRow, standIns := [], harness := (true, "f1e876b5c21ceb69921089fdfcf59b6244f4a9594e312a25172dd86947b4999d"), looks := true }, kinds := [], alts := [], laidByText := true, laidKinds := [.data, .data, .data, .data, .handle, .sentinel, .sentinel, .pinned], laidTests := true, laidLooks := .later }
def ParsePoliciesCardSaid : Prop := Claim7.holds Tryz.pinned (.plain (OpenSpec.ofChange parsePoliciesSpec)) parsePoliciesCard

/-- THE TIED CARD OF 'capstanlaw13.ParseExprs'. -/
def parseExprsCard : Claim7 := { stood := { row := parseExprsRow, standIns := [], harness := (true, "f1e876b5c21ceb69921089fdfcf59b6244f4a9594e312a25172dd86947b4999d"), looks := true }, kinds := [], alts := [], laidByText := true, laidKinds := [.data, .data, .data, .data, .handle, .sentinel, .sentinel, .pinned], laidTests := true, laidLooks := .later }
def ParseExprsCardSaid : Prop := Claim7.holds Tryz.pinned (.plain (OpenSpec.ofChange parseExprsSpec)) parseExprsCard

/-- THE TIED CARD OF 'capstanlaw13.ParseDeep'. -/
def parseDeepCard : Claim7 := { stood := { row := parseDeepRow, standIns := [], harness := (true, "f1e876b5c21ceb69921089fdfcf59b6244f4a9594e312a25172dd86947b4999d"), looks := true }, kinds := [], alts := [], laidByText := true, laidKinds := [.data, .data, .data, .data, .handle, .sentinel, .sentinel, .pinned], laidTests := true, laidLooks := .later }
def ParseDeepCardSaid : Prop := Claim7.holds Tryz.pinned (.plain (OpenSpec.ofChange parseDeepSpec)) parseDeepCard

/-- THE SECOND FORM's CARD OF 'capstanlaw13.ParsePolicies'. -/
def parsePoliciesUptoCard : Claim7 := { stood := { row := parsePoliciesUptoRow, standIns := [], harness := (true, "f1e876b5c21ceb69921089fdfcf59b6244f4a9594e312a25172dd86947b4999d"), looks := true }, kinds := [], alts := [], laidByText := true, laidKinds := [.data, .data, .data, .data, .handle, .sentinel, .sentinel, .pinned], laidTests := true, laidLooks := .later }
def ParsePoliciesUptoCardSaid : Prop := Claim7.holds Tryz.pinned (.plain (OpenSpec.upto parsePoliciesSpec)) parsePoliciesUptoCard

/-- THE SECOND FORM's CARD OF 'capstanlaw13.ParseExprs'. -/
def parseExprsUptoCard : Claim7 := { stood := { row := parseExprsUptoRow, standIns := [], harness := (true, "f1e876b5c21ceb69921089fdfcf59b6244f4a9594e312a25172dd86947b4999d"), looks := true }, kinds := [], alts := [], laidByText := true, laidKinds := [.data, .data, .data, .data, .handle, .sentinel, .sentinel, .pinned], laidTests := true, laidLooks := .later }
def ParseExprsUptoCardSaid : Prop := Claim7.holds Tryz.pinned (.plain (OpenSpec.upto parseExprsSpec)) parseExprsUptoCard

/-- THE SECOND FORM's CARD OF 'capstanlaw13.ParseDeep'. -/
def parseDeepUptoCard : Claim7 := { stood := { row := parseDeepUptoRow, standIns := [], harness := (true, "f1e876b5c21ceb69921089fdfcf59b6244f4a9594e312a25172dd86947b4999d"), looks := true }, kinds := [], alts := [], laidByText := true, laidKinds := [.data, .data, .data, .data, .handle, .sentinel, .sentinel, .pinned], laidTests := true, laidLooks := .later }
def ParseDeepUptoCardSaid : Prop := Claim7.holds Tryz.pinned (.plain (OpenSpec.upto parseDeepSpec)) parseDeepUptoCard
end Rows
end Go.Proofs.YtecdfnpbcabdnaaGreatDoor

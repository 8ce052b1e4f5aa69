/-
  DERIVED. GIVEN WITH THE SEED: THE CARDS: each row of YtbhmffgmbabkkaaGreatDoorRows.lean that lists a variable, with what it lists TIED to the program's text (the seventh form; the later family's looks); each row that meets fmt, with fmt's text TOLD by the authors' own Lean function (tested against real Go, not proved from fmt's source: count such statements apart). THE CARD IS WHAT COUNTS. Prove the row's statement (the work); the ties are given (YtbhmffgmbabkkaaGreatDoorTie.lean); close each card by the builder's one call (the guide's Derived/Test/ToyasCard.lean, 'card_holds'). Laid BY PROGRAM, IN A SANDBOX (cutbox-door.mjs). By AI agents, Wed Nov 11 2026. No macro, syntax, notation, axiom, sorry.
-/
import Derived.Test.YtbhmffgmbabkkaaGreatDoorRows
import GoSem.ClaimSeven
namespace Go.Proofs.YtbhmffgmbabkkaaGreatDoor
namespace Rows

/-- THE TIED CARD OF 'capstanlaw13.ParsePolicies'. -/
def parsePoliciesCard : Claim7 := { stood := { row := parsePoliciesRow, standIns := [], harness := (true, "077477f6dd1937c34708d9f00d491c37bf6cfb1b30c2d1e583a06ee57757ac0b"), looks := true }, kinds := [], alts := [], laidByText := true, laidKinds := [.data, .data, .data, .data, .handle, .sentinel, .sentinel, .pinned], laidTests := true, laidLooks := .later }
def ParsePoliciesCardSaid : Prop := Claim7.holds Tryz.pinned (.plain (OpenSpec.ofChange parsePoliciesSpec)) parsePoliciesCard

/-- THE TIED CARD OF 'capstanlaw13.ParseExprs'. -/
def parseExprsCard : Claim7 := { stood := { row := parseExprsRow, standIns := [], harness := (true, "077477f6dd1937c34708d9f00d491c37bf6cfb1b30c2d1e583a06ee57757ac0b"), looks := true }, kinds := [], alts := [], laidByText := true, laidKinds := [.data, .data, .data, .data, .handle, .sentinel, .sentinel, .pinned], laidTests := true, laidLooks := .later }
def ParseExprsCardSaid : Prop := Claim7.holds Tryz.pinned (.plain (OpenSpec.ofChange parseExprsSpec)) parseExprsCard

/-- THE TIED CARD OF 'capstanlaw13.ParseDeep'. -/
def parseDeepCard : Claim7 := { stood := { row := parseDeepRow, standIns := [], harness := (true, "077477f6dd1937c34708d9f00d491c37bf6cfb1b30c2d1e583a06ee57757ac0b"), looks := true }, kinds := [], alts := [], laidByText := true, laidKinds := [.data, .data, .data, .data, .handle, .sentinel, .sentinel, .pinned], laidTests := true, laidLooks := .later }
def ParseDeepCardSaid : Prop := Claim7.holds Tryz.pinned (.plain (OpenSpec.ofChange parseDeepSpec)) parseDeepCard

/-- THE TIED CARD OF 'capstanlaw13.ParseFormed'. -/
def parseFormedCard : Claim7 := { stood := { row := parseFormedRow, standIns := [], harness := (true, "077477f6dd1937c34708d9f00d491c37bf6cfb1b30c2d1e583a06ee57757ac0b"), looks := true }, kinds := [], alts := [], laidByText := true, laidKinds := [.data, .handle, .pinned], laidTests := true, laidLooks := .later }
def ParseFormedCardSaid : Prop := Claim7.holds Tryz.pinned (.plain (OpenSpec.ofChange parseFormedSpec)) parseFormedCard

/-- THE TIED CARD OF 'capstanlaw13.ParseLines'. -/
def parseLinesCard : Claim7 := { stood := { row := parseLinesRow, standIns := [], harness := (true, "077477f6dd1937c34708d9f00d491c37bf6cfb1b30c2d1e583a06ee57757ac0b"), looks := true }, kinds := [], alts := [], laidByText := true, laidKinds := [.data, .handle, .pinned], laidTests := true, laidLooks := .later }
def ParseLinesCardSaid : Prop := Claim7.holds Tryz.pinned (.plain (OpenSpec.ofChange parseLinesSpec)) parseLinesCard

/-- THE TIED CARD OF 'capstanlaw14.ShowExprs'. -/
def showExprsCard : Claim7 := { stood := { row := showExprsRow, standIns := [], harness := (true, "077477f6dd1937c34708d9f00d491c37bf6cfb1b30c2d1e583a06ee57757ac0b"), looks := true }, kinds := [], alts := [], laidByText := true, laidKinds := [.data, .data, .data, .data, .pinned], laidTests := true, laidLooks := .later }
def ShowExprsCardSaid : Prop := Claim7.holds Tryz.pinned (.plain (OpenSpec.ofChange showExprsSpec)) showExprsCard

/-- THE TIED CARD OF 'capstanlaw14.ShowPolicies'. -/
def showPoliciesCard : Claim7 := { stood := { row := showPoliciesRow, standIns := [], harness := (true, "077477f6dd1937c34708d9f00d491c37bf6cfb1b30c2d1e583a06ee57757ac0b"), looks := true }, kinds := [], alts := [], laidByText := true, laidKinds := [.data, .data, .data, .data, .pinned], laidTests := true, laidLooks := .later }
def ShowPoliciesCardSaid : Prop := Claim7.holds Tryz.pinned (.plain (OpenSpec.ofChange showPoliciesSpec)) showPoliciesCard

/-- THE TIED CARD OF 'capstanlaw14.ShowBack'. -/
def showBackCard : Claim7 := { stood := { row := showBackRow, standIns := [], harness := (true, "077477f6dd1937c34708d9f00d491c37bf6cfb1b30c2d1e583a06ee57757ac0b"), looks := true }, kinds := [], alts := [], laidByText := true, laidKinds := [.data, .data, .data, .data, .handle, .pinned], laidTests := true, laidLooks := .later }
def ShowBackCardSaid : Prop := Claim7.holds Tryz.pinned (.plain (OpenSpec.ofChange showBackSpec)) showBackCard

/-- THE TIED CARD OF 'capstanlaw14.ShowBrackets'. -/
def showBracketsCard : Claim7 := { stood := { row := showBracketsRow, standIns := [], harness := (true, "077477f6dd1937c34708d9f00d491c37bf6cfb1b30c2d1e583a06ee57757ac0b"), looks := true }, kinds := [], alts := [], laidByText := true, laidKinds := [.data, .data, .data, .data, .handle, .pinned], laidTests := true, laidLooks := .later }
def ShowBracketsCardSaid : Prop := Claim7.holds Tryz.pinned (.plain (OpenSpec.ofChange showBracketsSpec)) showBracketsCard

/-- THE TIED CARD OF 'capstanlaw14.ShowCanonical'. -/
def showCanonicalCard : Claim7 := { stood := { row := showCanonicalRow, standIns := [], harness := (true, "077477f6dd1937c34708d9f00d491c37bf6cfb1b30c2d1e583a06ee57757ac0b"), looks := true }, kinds := [], alts := [], laidByText := true, laidKinds := [.data, .data, .data, .data, .sentinel, .sentinel, .pinned], laidTests := true, laidLooks := .later }
def ShowCanonicalCardSaid : Prop := Claim7.holds Tryz.pinned (.plain (OpenSpec.ofChange showCanonicalSpec)) showCanonicalCard

/-- THE SECOND FORM's CARD OF 'capstanlaw13.ParsePolicies'. -/
def parsePoliciesUptoCard : Claim7 := { stood := { row := parsePoliciesUptoRow, standIns := [], harness := (true, "077477f6dd1937c34708d9f00d491c37bf6cfb1b30c2d1e583a06ee57757ac0b"), looks := true }, kinds := [], alts := [], laidByText := true, laidKinds := [.data, .data, .data, .data, .handle, .sentinel, .sentinel, .pinned], laidTests := true, laidLooks := .later }
def ParsePoliciesUptoCardSaid : Prop := Claim7.holds Tryz.pinned (.plain (OpenSpec.upto parsePoliciesSpec)) parsePoliciesUptoCard

/-- THE SECOND FORM's CARD OF 'capstanlaw13.ParseExprs'. -/
def parseExprsUptoCard : Claim7 := { stood := { row := parseExprsUptoRow, standIns := [], harness := (true, "077477f6dd1937c34708d9f00d491c37bf6cfb1b30c2d1e583a06ee57757ac0b"), looks := true }, kinds := [], alts := [], laidByText := true, laidKinds := [.data, .data, .data, .data, .handle, .sentinel, .sentinel, .pinned], laidTests := true, laidLooks := .later }
def ParseExprsUptoCardSaid : Prop := Claim7.holds Tryz.pinned (.plain (OpenSpec.upto parseExprsSpec)) parseExprsUptoCard

/-- THE SECOND FORM's CARD OF 'capstanlaw13.ParseDeep'. -/
def parseDeepUptoCard : Claim7 := { stood := { row := parseDeepUptoRow, standIns := [], harness := (true, "077477f6dd1937c34708d9f00d491c37bf6cfb1b30c2d1e583a06ee57757ac0b"), looks := true }, kinds := [], alts := [], laidByText := true, laidKinds := [.data, .data, .data, .data, .handle, .sentinel, .sentinel, .pinned], laidTests := true, laidLooks := .later }
def ParseDeepUptoCardSaid : Prop := Claim7.holds Tryz.pinned (.plain (OpenSpec.upto parseDeepSpec)) parseDeepUptoCard

/-- THE SECOND FORM's CARD OF 'capstanlaw13.ParseFormed'. -/
def parseFormedUptoCard : Claim7 := { stood := { row := parseFormedUptoRow, standIns := [], harness := (true, "077477f6dd1937c34708d9f00d491c37bf6cfb1b30c2d1e583a06ee57757ac0b"), looks := true }, kinds := [], alts := [], laidByText := true, laidKinds := [.data, .handle, .pinned], laidTests := true, laidLooks := .later }
def ParseFormedUptoCardSaid : Prop := Claim7.holds Tryz.pinned (.plain (OpenSpec.upto parseFormedSpec)) parseFormedUptoCard

/-- THE SECOND FORM's CARD OF 'capstanlaw13.ParseLines'. -/
def parseLinesUptoCard : Claim7 := { stood := { row := parseLinesUptoRow, standIns := [], harness := (true, "077477f6dd1937c34708d9f00d491c37bf6cfb1b30c2d1e583a06ee57757ac0b"), looks := true }, kinds := [], alts := [], laidByText := true, laidKinds := [.data, .handle, .pinned], laidTests := true, laidLooks := .later }
def ParseLinesUptoCardSaid : Prop := Claim7.holds Tryz.pinned (.plain (OpenSpec.upto parseLinesSpec)) parseLinesUptoCard

/-- THE SECOND FORM's CARD OF 'capstanlaw14.ShowExprs'. -/
def showExprsUptoCard : Claim7 := { stood := { row := showExprsUptoRow, standIns := [], harness := (true, "077477f6dd1937c34708d9f00d491c37bf6cfb1b30c2d1e583a06ee57757ac0b"), looks := true }, kinds := [], alts := [], laidByText := true, laidKinds := [.data, .data, .data, .data, .pinned], laidTests := true, laidLooks := .later }
def ShowExprsUptoCardSaid : Prop := Claim7.holds Tryz.pinned (.plain (OpenSpec.upto showExprsSpec)) showExprsUptoCard

/-- THE SECOND FORM's CARD OF 'capstanlaw14.ShowPolicies'. -/
def showPoliciesUptoCard : Claim7 := { stood := { row := showPoliciesUptoRow, standIns := [], harness := (true, "077477f6dd1937c34708d9f00d491c37bf6cfb1b30c2d1e583a06ee57757ac0b"), looks := true }, kinds := [], alts := [], laidByText := true, laidKinds := [.data, .data, .data, .data, .pinned], laidTests := true, laidLooks := .later }
def ShowPoliciesUptoCardSaid : Prop := Claim7.holds Tryz.pinned (.plain (OpenSpec.upto showPoliciesSpec)) showPoliciesUptoCard

/-- THE SECOND FORM's CARD OF 'capstanlaw14.ShowBack'. -/
def showBackUptoCard : Claim7 := { stood := { row := showBackUptoRow, standIns := [], harness := (true, "077477f6dd1937c34708d9f00d491c37bf6cfb1b30c2d1e583a06ee57757ac0b"), looks := true }, kinds := [], alts := [], laidByText := true, laidKinds := [.data, .data, .data, .data, .handle, .pinned], laidTests := true, laidLooks := .later }
def ShowBackUptoCardSaid : Prop := Claim7.holds Tryz.pinned (.plain (OpenSpec.upto showBackSpec)) showBackUptoCard

/-- THE SECOND FORM's CARD OF 'capstanlaw14.ShowBrackets'. -/
def showBracketsUptoCard : Claim7 := { stood := { row := showBracketsUptoRow, standIns := [], harness := (true, "077477f6dd1937c34708d9f00d491c37bf6cfb1b30c2d1e583a06ee57757ac0b"), looks := true }, kinds := [], alts := [], laidByText := true, laidKinds := [.data, .data, .data, .data, .handle, .pinned], laidTests := true, laidLooks := .later }
def ShowBracketsUptoCardSaid : Prop := Claim7.holds Tryz.pinned (.plain (OpenSpec.upto showBracketsSpec)) showBracketsUptoCard

/-- THE SECOND FORM's CARD OF 'capstanlaw14.ShowCanonical'. -/
def showCanonicalUptoCard : Claim7 := { stood := { row := showCanonicalUptoRow, standIns := [], harness := (true, "077477f6dd1937c34708d9f00d491c37bf6cfb1b30c2d1e583a06ee57757ac0b"), looks := true }, kinds := [], alts := [], laidByText := true, laidKinds := [.data, .data, .data, .data, .sentinel, .sentinel, .pinned], laidTests := true, laidLooks := .later }
def ShowCanonicalUptoCardSaid : Prop := Claim7.holds Tryz.pinned (.plain (OpenSpec.upto showCanonicalSpec)) showCanonicalUptoCard
end Rows
end Go.Proofs.YtbhmffgmbabkkaaGreatDoor

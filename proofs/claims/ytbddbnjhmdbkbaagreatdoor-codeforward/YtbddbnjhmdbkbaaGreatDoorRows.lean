/-
  NARROWER THAN 'FOR EVERY INPUT', by the rows' own cells (each row's printed sentence says how): MeanSees: loops, laid · MeanDecides: loops, laid · CodeEmits: loops, laid · CodeForward: loops, laid · CodeConstants: loops, laid · CodeKeeps: loops, laid.
  DERIVED. THE GIVEN ROWS OF THIS SEAT. 6 by the template 'for every input the law returns true; each argument reads behind the call as it read before'; 0 by the template 'total and deterministic' (their statements: YtbddbnjhmdbkbaaGreatDoorTotals.lean).
  GIVEN WITH THE SEED: the statements are not yours to turn. If you find one false, say at which input.
  Laid BY PROGRAM, IN A SANDBOX (cutbox-rows.mjs): the forced cells as the released guide's own fill.sh prints them over the translation d8960659ead4e3b0… (all of the seat's roots in one cut). By AI agents, Wed Nov 11 2026. No macro, syntax, notation, axiom, sorry.
-/
import Derived.Test.YtbddbnjhmdbkbaaGreatDoorChecked
import GoSem.Claim
import GoSem.ClaimJoined
import GoSem.ClaimMapViews
import Derived.JoinedTies
import Derived.KernelRfl
namespace Go.Proofs.YtbddbnjhmdbkbaaGreatDoor
/- THE CELL 'sum', in the pinned program and in every row, IS THE sha256 OF THE DUMP (.gsa) THAT YtbddbnjhmdbkbaaGreatDoorProg.lean LOADS. Nothing in Lean hashes anything: it is a label: what it is worth is what the hold of that sum in a sandbox is worth. -/
noncomputable def Tryz.pinned : Pinned := { name := "ytbddbnjhmdbkbaagreatdoor", sum := "d8960659ead4e3b0e1cabb1dcaf8e937650a8db515bb99c2e0e9891c4933aab8", checked := Tryz.checked }
namespace Rows
def none {H : Type} : Left H := { results := [], args := [] }

/- WHAT THE LISTED PACKAGE-LEVEL VARIABLES READ AS WHEN THE CALL BEGINS. Each datum BY PROGRAM (the guide's laid-datum.mjs) off the statement by which the dump's own 'gosem.cut.vars' lays the variable. In a bare row this is a premise. The card (YtbddbnjhmdbkbaaGreatDoorCards.lean) ties it to the program's text. -/
def laid_capstan_civil_lengths {H : Type} : DataW H := .agg [.lit (.int .i64 31), .lit (.int .i64 28), .lit (.int .i64 31), .lit (.int .i64 30), .lit (.int .i64 31), .lit (.int .i64 30), .lit (.int .i64 31), .lit (.int .i64 31), .lit (.int .i64 30), .lit (.int .i64 31), .lit (.int .i64 30), .lit (.int .i64 31)]
def laid_errors_errorType {H : Type} : DataW H := .iface "internal/reflectlite.rtype" (.agg [.ptr (.lit (.string [101, 114, 114, 111, 114]))])
def laid_capstan_cron_fields {H : Type} : DataW H := .agg [.agg [.lit (.int .i64 0), .lit (.int .i64 59)], .agg [.lit (.int .i64 0), .lit (.int .i64 23)], .agg [.lit (.int .i64 1), .lit (.int .i64 31)], .agg [.lit (.int .i64 1), .lit (.int .i64 12)], .agg [.lit (.int .i64 0), .lit (.int .i64 6)]]
def laid_capstan_code_plainOps {H : Type} : DataW H := .agg [.lit (.int .i64 0), .lit (.int .i64 0), .lit (.int .i64 0), .lit (.int .i64 2), .lit (.int .i64 3), .lit (.int .i64 4), .lit (.int .i64 5), .lit (.int .i64 0), .lit (.int .i64 6), .lit (.int .i64 7), .lit (.int .i64 8), .lit (.int .i64 9), .lit (.int .i64 10), .lit (.int .i64 0), .lit (.int .i64 12), .lit (.int .i64 13), .lit (.int .i64 14), .lit (.int .i64 15), .lit (.int .i64 16), .lit (.int .i64 17), .lit (.int .i64 18), .lit (.int .i64 19), .lit (.int .i64 20), .lit (.int .i64 21), .lit (.int .i64 22), .lit (.int .i64 0), .lit (.int .i64 0), .lit (.int .i64 0), .lit (.int .i64 0), .lit (.int .i64 29), .lit (.int .i64 30), .lit (.int .i64 31)]

/-- 'capstanlaw17.MeanSees': WHATEVER THE INPUT: true; the input reads as it did. -/
def meanSeesSpec : ChangeSpec := { name := "meanSees", fn := fun _ => fun
  | [d1, d2, d3] => { results := [.lit (.bool true)], args := [d1, d2, d3] }
  | _ => none }
def meanSeesRow : OpenClaim := { program := "ytbddbnjhmdbkbaagreatdoor", sum := "d8960659ead4e3b0e1cabb1dcaf8e937650a8db515bb99c2e0e9891c4933aab8", func := "capstan/capstanlaw17.MeanSees", spec := "meanSees", inPlace := ["math/bits.Sub64", "math/bits.Add64", "internal/reflectlite.ValueOf", "(internal/reflectlite.Value).Type", "(internal/reflectlite.Value).IsNil", "internal/reflectlite.TypeOf", "(internal/reflectlite.Value).Elem", "(internal/reflectlite.Value).Set"], unfollowed := true, recurses := true, named := ["capstan/cron.fields", "math/bits.divideError", "math/bits.overflowError", "errors.errorType", "capstan/civil.lengths"], loops := true, apart := false, laid := [("capstan/civil.lengths", laid_capstan_civil_lengths), ("errors.errorType", laid_errors_errorType), ("capstan/cron.fields", laid_capstan_cron_fields)] }
def MeanSeesSaid : Prop := meanSeesRow.holds Tryz.pinned (OpenSpec.ofChange meanSeesSpec)

/-- ITS FALSE NEIGHBOUR: 'it returns false'. Refute it at one input. -/
def meanSeesWrong : ChangeSpec := { name := "meanSees", fn := fun _ => fun
  | [d1, d2, d3] => { results := [.lit (.bool false)], args := [d1, d2, d3] }
  | _ => none }
def MeanSeesWrongFalsely : Prop := meanSeesRow.holds Tryz.pinned (OpenSpec.ofChange meanSeesWrong)

/-- 'capstanlaw17.MeanDecides': WHATEVER THE INPUT: true; the input reads as it did. -/
def meanDecidesSpec : ChangeSpec := { name := "meanDecides", fn := fun _ => fun
  | [d1, d2, d3] => { results := [.lit (.bool true)], args := [d1, d2, d3] }
  | _ => none }
def meanDecidesRow : OpenClaim := { program := "ytbddbnjhmdbkbaagreatdoor", sum := "d8960659ead4e3b0e1cabb1dcaf8e937650a8db515bb99c2e0e9891c4933aab8", func := "capstan/capstanlaw17.MeanDecides", spec := "meanDecides", inPlace := ["math/bits.Sub64", "math/bits.Add64", "internal/reflectlite.ValueOf", "(internal/reflectlite.Value).Type", "(internal/reflectlite.Value).IsNil", "internal/reflectlite.TypeOf", "(internal/reflectlite.Value).Elem", "(internal/reflectlite.Value).Set"], unfollowed := true, recurses := true, named := ["capstan/cron.fields", "math/bits.divideError", "math/bits.overflowError", "errors.errorType", "capstan/civil.lengths"], loops := true, apart := false, laid := [("capstan/civil.lengths", laid_capstan_civil_lengths), ("errors.errorType", laid_errors_errorType), ("capstan/cron.fields", laid_capstan_cron_fields)] }
def MeanDecidesSaid : Prop := meanDecidesRow.holds Tryz.pinned (OpenSpec.ofChange meanDecidesSpec)

/-- ITS FALSE NEIGHBOUR: 'it returns false'. Refute it at one input. -/
def meanDecidesWrong : ChangeSpec := { name := "meanDecides", fn := fun _ => fun
  | [d1, d2, d3] => { results := [.lit (.bool false)], args := [d1, d2, d3] }
  | _ => none }
def MeanDecidesWrongFalsely : Prop := meanDecidesRow.holds Tryz.pinned (OpenSpec.ofChange meanDecidesWrong)

/-- 'capstanlaw21.CodeEmits': WHATEVER THE INPUT: true; the input reads as it did. -/
def codeEmitsSpec : ChangeSpec := { name := "codeEmits", fn := fun _ => fun
  | [d] => { results := [.lit (.bool true)], args := [d] }
  | _ => none }
def codeEmitsRow : OpenClaim := { program := "ytbddbnjhmdbkbaagreatdoor", sum := "d8960659ead4e3b0e1cabb1dcaf8e937650a8db515bb99c2e0e9891c4933aab8", func := "capstan/capstanlaw21.CodeEmits", spec := "codeEmits", inPlace := ["math/bits.Sub64", "math/bits.Add64", "internal/reflectlite.ValueOf", "(internal/reflectlite.Value).Type", "(internal/reflectlite.Value).IsNil", "internal/reflectlite.TypeOf", "(internal/reflectlite.Value).Elem", "(internal/reflectlite.Value).Set"], unfollowed := true, recurses := true, named := ["capstan/cron.fields", "math/bits.divideError", "math/bits.overflowError", "errors.errorType", "capstan/code.plainOps"], loops := true, apart := false, laid := [("errors.errorType", laid_errors_errorType), ("capstan/cron.fields", laid_capstan_cron_fields), ("capstan/code.plainOps", laid_capstan_code_plainOps)] }
def CodeEmitsSaid : Prop := codeEmitsRow.holds Tryz.pinned (OpenSpec.ofChange codeEmitsSpec)

/-- ITS FALSE NEIGHBOUR: 'it returns false'. Refute it at one input. -/
def codeEmitsWrong : ChangeSpec := { name := "codeEmits", fn := fun _ => fun
  | [d] => { results := [.lit (.bool false)], args := [d] }
  | _ => none }
def CodeEmitsWrongFalsely : Prop := codeEmitsRow.holds Tryz.pinned (OpenSpec.ofChange codeEmitsWrong)

/-- 'capstanlaw21.CodeForward': WHATEVER THE INPUT: true; the input reads as it did. -/
def codeForwardSpec : ChangeSpec := { name := "codeForward", fn := fun _ => fun
  | [d] => { results := [.lit (.bool true)], args := [d] }
  | _ => none }
def codeForwardRow : OpenClaim := { program := "ytbddbnjhmdbkbaagreatdoor", sum := "d8960659ead4e3b0e1cabb1dcaf8e937650a8db515bb99c2e0e9891c4933aab8", func := "capstan/capstanlaw21.CodeForward", spec := "codeForward", inPlace := ["math/bits.Sub64", "math/bits.Add64", "internal/reflectlite.ValueOf", "(internal/reflectlite.Value).Type", "(internal/reflectlite.Value).IsNil", "internal/reflectlite.TypeOf", "(internal/reflectlite.Value).Elem", "(internal/reflectlite.Value).Set"], unfollowed := true, recurses := true, named := ["capstan/cron.fields", "math/bits.divideError", "math/bits.overflowError", "errors.errorType", "capstan/code.plainOps"], loops := true, apart := false, laid := [("errors.errorType", laid_errors_errorType), ("capstan/cron.fields", laid_capstan_cron_fields), ("capstan/code.plainOps", laid_capstan_code_plainOps)] }
def CodeForwardSaid : Prop := codeForwardRow.holds Tryz.pinned (OpenSpec.ofChange codeForwardSpec)

/-- ITS FALSE NEIGHBOUR: 'it returns false'. Refute it at one input. -/
def codeForwardWrong : ChangeSpec := { name := "codeForward", fn := fun _ => fun
  | [d] => { results := [.lit (.bool false)], args := [d] }
  | _ => none }
def CodeForwardWrongFalsely : Prop := codeForwardRow.holds Tryz.pinned (OpenSpec.ofChange codeForwardWrong)

/-- 'capstanlaw21.CodeConstants': WHATEVER THE INPUT: true; the input reads as it did. -/
def codeConstantsSpec : ChangeSpec := { name := "codeConstants", fn := fun _ => fun
  | [d] => { results := [.lit (.bool true)], args := [d] }
  | _ => none }
def codeConstantsRow : OpenClaim := { program := "ytbddbnjhmdbkbaagreatdoor", sum := "d8960659ead4e3b0e1cabb1dcaf8e937650a8db515bb99c2e0e9891c4933aab8", func := "capstan/capstanlaw21.CodeConstants", spec := "codeConstants", inPlace := ["math/bits.Sub64", "math/bits.Add64", "internal/reflectlite.ValueOf", "(internal/reflectlite.Value).Type", "(internal/reflectlite.Value).IsNil", "internal/reflectlite.TypeOf", "(internal/reflectlite.Value).Elem", "(internal/reflectlite.Value).Set"], unfollowed := true, recurses := true, named := ["capstan/cron.fields", "math/bits.divideError", "math/bits.overflowError", "errors.errorType", "capstan/code.plainOps"], loops := true, apart := false, laid := [("errors.errorType", laid_errors_errorType), ("capstan/cron.fields", laid_capstan_cron_fields), ("capstan/code.plainOps", laid_capstan_code_plainOps)] }
def CodeConstantsSaid : Prop := codeConstantsRow.holds Tryz.pinned (OpenSpec.ofChange codeConstantsSpec)

/-- ITS FALSE NEIGHBOUR: 'it returns false'. Refute it at one input. -/
def codeConstantsWrong : ChangeSpec := { name := "codeConstants", fn := fun _ => fun
  | [d] => { results := [.lit (.bool false)], args := [d] }
  | _ => none }
def CodeConstantsWrongFalsely : Prop := codeConstantsRow.holds Tryz.pinned (OpenSpec.ofChange codeConstantsWrong)

/-- 'capstanlaw21.CodeKeeps': WHATEVER THE INPUT: true; the input reads as it did. -/
def codeKeepsSpec : ChangeSpec := { name := "codeKeeps", fn := fun _ => fun
  | [d] => { results := [.lit (.bool true)], args := [d] }
  | _ => none }
def codeKeepsRow : OpenClaim := { program := "ytbddbnjhmdbkbaagreatdoor", sum := "d8960659ead4e3b0e1cabb1dcaf8e937650a8db515bb99c2e0e9891c4933aab8", func := "capstan/capstanlaw21.CodeKeeps", spec := "codeKeeps", inPlace := ["math/bits.Sub64", "math/bits.Add64", "internal/reflectlite.ValueOf", "(internal/reflectlite.Value).Type", "(internal/reflectlite.Value).IsNil", "internal/reflectlite.TypeOf", "(internal/reflectlite.Value).Elem", "(internal/reflectlite.Value).Set"], unfollowed := true, recurses := true, named := ["capstan/cron.fields", "math/bits.divideError", "math/bits.overflowError", "errors.errorType", "capstan/code.plainOps"], loops := true, apart := false, laid := [("errors.errorType", laid_errors_errorType), ("capstan/cron.fields", laid_capstan_cron_fields), ("capstan/code.plainOps", laid_capstan_code_plainOps)] }
def CodeKeepsSaid : Prop := codeKeepsRow.holds Tryz.pinned (OpenSpec.ofChange codeKeepsSpec)

/-- ITS FALSE NEIGHBOUR: 'it returns false'. Refute it at one input. -/
def codeKeepsWrong : ChangeSpec := { name := "codeKeeps", fn := fun _ => fun
  | [d] => { results := [.lit (.bool false)], args := [d] }
  | _ => none }
def CodeKeepsWrongFalsely : Prop := codeKeepsRow.holds Tryz.pinned (OpenSpec.ofChange codeKeepsWrong)

/- THE SECOND FORM. 'bulk': how many values and letters a reading holds, each counted each time it is reached (what is shared counts as often as it is met; a slice's spare places count too). A statement '..UptoSaid' is the law's where the arguments, and the package variables that the reading takes, are together of bulk at most 1048576: NARROWER than '..Said'. Prove '..Said' where nothing that the law and all that it calls make is longer than what came in: it says more and counts as full. Else prove '..UptoSaid'. A law counts once. -/
mutual
def uptoBulk {H : Type} : DataW H → Nat
  | .lit (.string bytes) => bytes.length + 1
  | .lit _ => 1
  | .nil => 1
  | .ptr d => uptoBulk d + 1
  | .slice elems spare => uptoBulkAll elems + uptoBulkAll spare + 1
  | .agg parts => uptoBulkAll parts + 1
  | .iface _ d => uptoBulk d + 1
  | .map entries => uptoBulkEntries entries + 1
  | .held _ => 1
def uptoBulkAll {H : Type} : List (DataW H) → Nat
  | [] => 0
  | d :: r => uptoBulk d + uptoBulkAll r
def uptoBulkEntries {H : Type} : List (Lit × DataW H) → Nat
  | [] => 0
  | x :: r => uptoBulkEntry x + uptoBulkEntries r
def uptoBulkEntry {H : Type} : Lit × DataW H → Nat
  | (.string bytes, d) => bytes.length + uptoBulk d + 1
  | (_, d) => uptoBulk d + 1
 end
def uptoSmall : (H : Type) → List (DataW H) → Bool := fun _ ds => decide (uptoBulkAll ds ≤ 1048576)
def OpenSpec.upto (s : _root_.Go.ChangeSpec) : _root_.Go.OpenSpec := { _root_.Go.OpenSpec.ofChange s with cond := some uptoSmall }

/-- 'capstanlaw17.MeanSees', WHERE WHAT IT READS IS OF BULK AT MOST 1048576: true; the input reads as it did. -/
def meanSeesUptoRow : OpenClaim := { program := "ytbddbnjhmdbkbaagreatdoor", sum := "d8960659ead4e3b0e1cabb1dcaf8e937650a8db515bb99c2e0e9891c4933aab8", func := "capstan/capstanlaw17.MeanSees", spec := "meanSees", inPlace := ["math/bits.Sub64", "math/bits.Add64", "internal/reflectlite.ValueOf", "(internal/reflectlite.Value).Type", "(internal/reflectlite.Value).IsNil", "internal/reflectlite.TypeOf", "(internal/reflectlite.Value).Elem", "(internal/reflectlite.Value).Set"], unfollowed := true, recurses := true, named := ["capstan/cron.fields", "math/bits.divideError", "math/bits.overflowError", "errors.errorType", "capstan/civil.lengths"], loops := true, apart := false, laid := [("capstan/civil.lengths", laid_capstan_civil_lengths), ("errors.errorType", laid_errors_errorType), ("capstan/cron.fields", laid_capstan_cron_fields)], narrowed := true }
def MeanSeesUptoSaid : Prop := meanSeesUptoRow.holds Tryz.pinned (OpenSpec.upto meanSeesSpec)

/-- 'capstanlaw17.MeanDecides', WHERE WHAT IT READS IS OF BULK AT MOST 1048576: true; the input reads as it did. -/
def meanDecidesUptoRow : OpenClaim := { program := "ytbddbnjhmdbkbaagreatdoor", sum := "d8960659ead4e3b0e1cabb1dcaf8e937650a8db515bb99c2e0e9891c4933aab8", func := "capstan/capstanlaw17.MeanDecides", spec := "meanDecides", inPlace := ["math/bits.Sub64", "math/bits.Add64", "internal/reflectlite.ValueOf", "(internal/reflectlite.Value).Type", "(internal/reflectlite.Value).IsNil", "internal/reflectlite.TypeOf", "(internal/reflectlite.Value).Elem", "(internal/reflectlite.Value).Set"], unfollowed := true, recurses := true, named := ["capstan/cron.fields", "math/bits.divideError", "math/bits.overflowError", "errors.errorType", "capstan/civil.lengths"], loops := true, apart := false, laid := [("capstan/civil.lengths", laid_capstan_civil_lengths), ("errors.errorType", laid_errors_errorType), ("capstan/cron.fields", laid_capstan_cron_fields)], narrowed := true }
def MeanDecidesUptoSaid : Prop := meanDecidesUptoRow.holds Tryz.pinned (OpenSpec.upto meanDecidesSpec)

/-- 'capstanlaw21.CodeEmits', WHERE WHAT IT READS IS OF BULK AT MOST 1048576: true; the input reads as it did. -/
def codeEmitsUptoRow : OpenClaim := { program := "ytbddbnjhmdbkbaagreatdoor", sum := "d8960659ead4e3b0e1cabb1dcaf8e937650a8db515bb99c2e0e9891c4933aab8", func := "capstan/capstanlaw21.CodeEmits", spec := "codeEmits", inPlace := ["math/bits.Sub64", "math/bits.Add64", "internal/reflectlite.ValueOf", "(internal/reflectlite.Value).Type", "(internal/reflectlite.Value).IsNil", "internal/reflectlite.TypeOf", "(internal/reflectlite.Value).Elem", "(internal/reflectlite.Value).Set"], unfollowed := true, recurses := true, named := ["capstan/cron.fields", "math/bits.divideError", "math/bits.overflowError", "errors.errorType", "capstan/code.plainOps"], loops := true, apart := false, laid := [("errors.errorType", laid_errors_errorType), ("capstan/cron.fields", laid_capstan_cron_fields), ("capstan/code.plainOps", laid_capstan_code_plainOps)], narrowed := true }
def CodeEmitsUptoSaid : Prop := codeEmitsUptoRow.holds Tryz.pinned (OpenSpec.upto codeEmitsSpec)

/-- 'capstanlaw21.CodeForward', WHERE WHAT IT READS IS OF BULK AT MOST 1048576: true; the input reads as it did. -/
def codeForwardUptoRow : OpenClaim := { program := "ytbddbnjhmdbkbaagreatdoor", sum := "d8960659ead4e3b0e1cabb1dcaf8e937650a8db515bb99c2e0e9891c4933aab8", func := "capstan/capstanlaw21.CodeForward", spec := "codeForward", inPlace := ["math/bits.Sub64", "math/bits.Add64", "internal/reflectlite.ValueOf", "(internal/reflectlite.Value).Type", "(internal/reflectlite.Value).IsNil", "internal/reflectlite.TypeOf", "(internal/reflectlite.Value).Elem", "(internal/reflectlite.Value).Set"], unfollowed := true, recurses := true, named := ["capstan/cron.fields", "math/bits.divideError", "math/bits.overflowError", "errors.errorType", "capstan/code.plainOps"], loops := true, apart := false, laid := [("errors.errorType", laid_errors_errorType), ("capstan/cron.fields", laid_capstan_cron_fields), ("capstan/code.plainOps", laid_capstan_code_plainOps)], narrowed := true }
def CodeForwardUptoSaid : Prop := codeForwardUptoRow.holds Tryz.pinned (OpenSpec.upto codeForwardSpec)

/-- 'capstanlaw21.CodeConstants', WHERE WHAT IT READS IS OF BULK AT MOST 1048576: true; the input reads as it did. -/
def codeConstantsUptoRow : OpenClaim := { program := "ytbddbnjhmdbkbaagreatdoor", sum := "d8960659ead4e3b0e1cabb1dcaf8e937650a8db515bb99c2e0e9891c4933aab8", func := "capstan/capstanlaw21.CodeConstants", spec := "codeConstants", inPlace := ["math/bits.Sub64", "math/bits.Add64", "internal/reflectlite.ValueOf", "(internal/reflectlite.Value).Type", "(internal/reflectlite.Value).IsNil", "internal/reflectlite.TypeOf", "(internal/reflectlite.Value).Elem", "(internal/reflectlite.Value).Set"], unfollowed := true, recurses := true, named := ["capstan/cron.fields", "math/bits.divideError", "math/bits.overflowError", "errors.errorType", "capstan/code.plainOps"], loops := true, apart := false, laid := [("errors.errorType", laid_errors_errorType), ("capstan/cron.fields", laid_capstan_cron_fields), ("capstan/code.plainOps", laid_capstan_code_plainOps)], narrowed := true }
def CodeConstantsUptoSaid : Prop := codeConstantsUptoRow.holds Tryz.pinned (OpenSpec.upto codeConstantsSpec)

/-- 'capstanlaw21.CodeKeeps', WHERE WHAT IT READS IS OF BULK AT MOST 1048576: true; the input reads as it did. -/
def codeKeepsUptoRow : OpenClaim := { program := "ytbddbnjhmdbkbaagreatdoor", sum := "d8960659ead4e3b0e1cabb1dcaf8e937650a8db515bb99c2e0e9891c4933aab8", func := "capstan/capstanlaw21.CodeKeeps", spec := "codeKeeps", inPlace := ["math/bits.Sub64", "math/bits.Add64", "internal/reflectlite.ValueOf", "(internal/reflectlite.Value).Type", "(internal/reflectlite.Value).IsNil", "internal/reflectlite.TypeOf", "(internal/reflectlite.Value).Elem", "(internal/reflectlite.Value).Set"], unfollowed := true, recurses := true, named := ["capstan/cron.fields", "math/bits.divideError", "math/bits.overflowError", "errors.errorType", "capstan/code.plainOps"], loops := true, apart := false, laid := [("errors.errorType", laid_errors_errorType), ("capstan/cron.fields", laid_capstan_cron_fields), ("capstan/code.plainOps", laid_capstan_code_plainOps)], narrowed := true }
def CodeKeepsUptoSaid : Prop := codeKeepsUptoRow.holds Tryz.pinned (OpenSpec.upto codeKeepsSpec)

end Rows
end Go.Proofs.YtbddbnjhmdbkbaaGreatDoor

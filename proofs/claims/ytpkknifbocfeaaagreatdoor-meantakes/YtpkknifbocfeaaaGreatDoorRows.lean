/-
  NARROWER THAN 'FOR EVERY INPUT', by the rows' own cells (each row's printed sentence says how): CoreCopies: loops, laid · MeanTakes: laid · MeanSees: loops, laid · MeanDecides: loops, laid · MeanDrops: loops, laid · MeanForgets: loops, laid.
  DERIVED. THE GIVEN ROWS OF THIS SEAT. 6 by the template 'for every input the law returns true; each argument reads behind the call as it read before'; 0 by the template 'total and deterministic' (their statements: YtpkknifbocfeaaaGreatDoorTotals.lean).
  GIVEN WITH THE SEED: the statements are not yours to turn. If you find one false, say at which input.
  Laid BY PROGRAM, IN A SANDBOX (cutbox-rows.mjs): the forced cells as the released guide's own fill.sh prints them over the translation 136da815858bf4d6… (all of the seat's roots in one cut). By AI agents, Wed Nov 11 2026. No macro, syntax, notation, axiom, sorry.
-/
import Derived.Test.YtpkknifbocfeaaaGreatDoorChecked
import GoSem.Claim
import GoSem.ClaimJoined
import GoSem.ClaimMapViews
import Derived.JoinedTies
import Derived.KernelRfl
namespace Go.Proofs.YtpkknifbocfeaaaGreatDoor
/- THE CELL 'sum', in the pinned program and in every row, IS THE sha256 OF THE DUMP (.gsa) THAT YtpkknifbocfeaaaGreatDoorProg.lean LOADS. Nothing in Lean hashes anything: it is a label: what it is worth is what the hold of that sum in a sandbox is worth. -/
noncomputable def Tryz.pinned : Pinned := { name := "ytpkknifbocfeaaagreatdoor", sum := "136da815858bf4d617534fc4c939f4447d2d3014140089e890590a41589d1f96", checked := Tryz.checked }
namespace Rows
def none {H : Type} : Left H := { results := [], args := [] }

/- WHAT THE LISTED PACKAGE-LEVEL VARIABLES READ AS WHEN THE CALL BEGINS. Each datum BY PROGRAM (the guide's laid-datum.mjs) off the statement by which the dump's own 'gosem.cut.vars' lays the variable. In a bare row this is a premise. The card (YtpkknifbocfeaaaGreatDoorCards.lean) ties it to the program's text. -/
def laid_errors_errorType {H : Type} : DataW H := .iface "internal/reflectlite.rtype" (.agg [.ptr (.lit (.string [101, 114, 114, 111, 114]))])
def laid_capstan_civil_lengths {H : Type} : DataW H := .agg [.lit (.int .i64 31), .lit (.int .i64 28), .lit (.int .i64 31), .lit (.int .i64 30), .lit (.int .i64 31), .lit (.int .i64 30), .lit (.int .i64 31), .lit (.int .i64 31), .lit (.int .i64 30), .lit (.int .i64 31), .lit (.int .i64 30), .lit (.int .i64 31)]
def laid_capstan_cron_fields {H : Type} : DataW H := .agg [.agg [.lit (.int .i64 0), .lit (.int .i64 59)], .agg [.lit (.int .i64 0), .lit (.int .i64 23)], .agg [.lit (.int .i64 1), .lit (.int .i64 31)], .agg [.lit (.int .i64 1), .lit (.int .i64 12)], .agg [.lit (.int .i64 0), .lit (.int .i64 6)]]

/-- 'capstanlaw15.CoreCopies': WHATEVER THE INPUT: true; the input reads as it did. -/
def coreCopiesSpec : ChangeSpec := { name := "coreCopies", fn := fun _ => fun
  | [d] => { results := [.lit (.bool true)], args := [d] }
  | _ => none }
def coreCopiesRow : OpenClaim := { program := "ytpkknifbocfeaaagreatdoor", sum := "136da815858bf4d617534fc4c939f4447d2d3014140089e890590a41589d1f96", func := "capstan/capstanlaw15.CoreCopies", spec := "coreCopies", inPlace := ["math/bits.Sub64", "math/bits.Add64", "internal/reflectlite.ValueOf", "(internal/reflectlite.Value).Type", "(internal/reflectlite.Value).IsNil", "internal/reflectlite.TypeOf", "(internal/reflectlite.Value).Elem", "(internal/reflectlite.Value).Set"], unfollowed := true, recurses := true, named := ["math/bits.divideError", "math/bits.overflowError", "errors.errorType"], loops := true, apart := false, laid := [("errors.errorType", laid_errors_errorType)] }
def CoreCopiesSaid : Prop := coreCopiesRow.holds Tryz.pinned (OpenSpec.ofChange coreCopiesSpec)

/-- ITS FALSE NEIGHBOUR: 'it returns false'. Refute it at one input. -/
def coreCopiesWrong : ChangeSpec := { name := "coreCopies", fn := fun _ => fun
  | [d] => { results := [.lit (.bool false)], args := [d] }
  | _ => none }
def CoreCopiesWrongFalsely : Prop := coreCopiesRow.holds Tryz.pinned (OpenSpec.ofChange coreCopiesWrong)

/-- 'capstanlaw17.MeanTakes': WHATEVER THE INPUT: true; the input reads as it did. -/
def meanTakesSpec : ChangeSpec := { name := "meanTakes", fn := fun _ => fun
  | [d1, d2] => { results := [.lit (.bool true)], args := [d1, d2] }
  | _ => none }
def meanTakesRow : OpenClaim := { program := "ytpkknifbocfeaaagreatdoor", sum := "136da815858bf4d617534fc4c939f4447d2d3014140089e890590a41589d1f96", func := "capstan/capstanlaw17.MeanTakes", spec := "meanTakes", inPlace := ["math/bits.Sub64", "math/bits.Add64", "internal/reflectlite.ValueOf", "(internal/reflectlite.Value).Type", "(internal/reflectlite.Value).IsNil", "internal/reflectlite.TypeOf", "(internal/reflectlite.Value).Elem", "(internal/reflectlite.Value).Set"], unfollowed := true, recurses := true, named := ["capstan/cron.fields", "math/bits.divideError", "math/bits.overflowError", "errors.errorType", "capstan/civil.lengths"], apart := false, laid := [("capstan/civil.lengths", laid_capstan_civil_lengths), ("errors.errorType", laid_errors_errorType), ("capstan/cron.fields", laid_capstan_cron_fields)] }
def MeanTakesSaid : Prop := meanTakesRow.holds Tryz.pinned (OpenSpec.ofChange meanTakesSpec)

/-- ITS FALSE NEIGHBOUR: 'it returns false'. Refute it at one input. -/
def meanTakesWrong : ChangeSpec := { name := "meanTakes", fn := fun _ => fun
  | [d1, d2] => { results := [.lit (.bool false)], args := [d1, d2] }
  | _ => none }
def MeanTakesWrongFalsely : Prop := meanTakesRow.holds Tryz.pinned (OpenSpec.ofChange meanTakesWrong)

/-- 'capstanlaw17.MeanSees': WHATEVER THE INPUT: true; the input reads as it did. -/
def meanSeesSpec : ChangeSpec := { name := "meanSees", fn := fun _ => fun
  | [d1, d2, d3] => { results := [.lit (.bool true)], args := [d1, d2, d3] }
  | _ => none }
def meanSeesRow : OpenClaim := { program := "ytpkknifbocfeaaagreatdoor", sum := "136da815858bf4d617534fc4c939f4447d2d3014140089e890590a41589d1f96", func := "capstan/capstanlaw17.MeanSees", spec := "meanSees", inPlace := ["math/bits.Sub64", "math/bits.Add64", "internal/reflectlite.ValueOf", "(internal/reflectlite.Value).Type", "(internal/reflectlite.Value).IsNil", "internal/reflectlite.TypeOf", "(internal/reflectlite.Value).Elem", "(internal/reflectlite.Value).Set"], unfollowed := true, recurses := true, named := ["capstan/cron.fields", "math/bits.divideError", "math/bits.overflowError", "errors.errorType", "capstan/civil.lengths"], loops := true, apart := false, laid := [("capstan/civil.lengths", laid_capstan_civil_lengths), ("errors.errorType", laid_errors_errorType), ("capstan/cron.fields", laid_capstan_cron_fields)] }
def MeanSeesSaid : Prop := meanSeesRow.holds Tryz.pinned (OpenSpec.ofChange meanSeesSpec)

/-- ITS FALSE NEIGHBOUR: 'it returns false'. Refute it at one input. -/
def meanSeesWrong : ChangeSpec := { name := "meanSees", fn := fun _ => fun
  | [d1, d2, d3] => { results := [.lit (.bool false)], args := [d1, d2, d3] }
  | _ => none }
def MeanSeesWrongFalsely : Prop := meanSeesRow.holds Tryz.pinned (OpenSpec.ofChange meanSeesWrong)

/-- 'capstanlaw17.MeanDecides': WHATEVER THE INPUT: true; the input reads as it did. -/
def meanDecidesSpec : ChangeSpec := { name := "meanDecides", fn := fun _ => fun
  | [d1, d2, d3] => { results := [.lit (.bool true)], args := [d1, d2, d3] }
  | _ => none }
def meanDecidesRow : OpenClaim := { program := "ytpkknifbocfeaaagreatdoor", sum := "136da815858bf4d617534fc4c939f4447d2d3014140089e890590a41589d1f96", func := "capstan/capstanlaw17.MeanDecides", spec := "meanDecides", inPlace := ["math/bits.Sub64", "math/bits.Add64", "internal/reflectlite.ValueOf", "(internal/reflectlite.Value).Type", "(internal/reflectlite.Value).IsNil", "internal/reflectlite.TypeOf", "(internal/reflectlite.Value).Elem", "(internal/reflectlite.Value).Set"], unfollowed := true, recurses := true, named := ["capstan/cron.fields", "math/bits.divideError", "math/bits.overflowError", "errors.errorType", "capstan/civil.lengths"], loops := true, apart := false, laid := [("capstan/civil.lengths", laid_capstan_civil_lengths), ("errors.errorType", laid_errors_errorType), ("capstan/cron.fields", laid_capstan_cron_fields)] }
def MeanDecidesSaid : Prop := meanDecidesRow.holds Tryz.pinned (OpenSpec.ofChange meanDecidesSpec)

/-- ITS FALSE NEIGHBOUR: 'it returns false'. Refute it at one input. -/
def meanDecidesWrong : ChangeSpec := { name := "meanDecides", fn := fun _ => fun
  | [d1, d2, d3] => { results := [.lit (.bool false)], args := [d1, d2, d3] }
  | _ => none }
def MeanDecidesWrongFalsely : Prop := meanDecidesRow.holds Tryz.pinned (OpenSpec.ofChange meanDecidesWrong)

/-- 'capstanlaw17.MeanDrops': WHATEVER THE INPUT: true; the input reads as it did. -/
def meanDropsSpec : ChangeSpec := { name := "meanDrops", fn := fun _ => fun
  | [d1, d2, d3] => { results := [.lit (.bool true)], args := [d1, d2, d3] }
  | _ => none }
def meanDropsRow : OpenClaim := { program := "ytpkknifbocfeaaagreatdoor", sum := "136da815858bf4d617534fc4c939f4447d2d3014140089e890590a41589d1f96", func := "capstan/capstanlaw17.MeanDrops", spec := "meanDrops", inPlace := ["math/bits.Sub64", "math/bits.Add64", "internal/reflectlite.ValueOf", "(internal/reflectlite.Value).Type", "(internal/reflectlite.Value).IsNil", "internal/reflectlite.TypeOf", "(internal/reflectlite.Value).Elem", "(internal/reflectlite.Value).Set"], unfollowed := true, recurses := true, named := ["capstan/cron.fields", "math/bits.divideError", "math/bits.overflowError", "errors.errorType", "capstan/civil.lengths"], loops := true, apart := false, laid := [("capstan/civil.lengths", laid_capstan_civil_lengths), ("errors.errorType", laid_errors_errorType), ("capstan/cron.fields", laid_capstan_cron_fields)] }
def MeanDropsSaid : Prop := meanDropsRow.holds Tryz.pinned (OpenSpec.ofChange meanDropsSpec)

/-- ITS FALSE NEIGHBOUR: 'it returns false'. Refute it at one input. -/
def meanDropsWrong : ChangeSpec := { name := "meanDrops", fn := fun _ => fun
  | [d1, d2, d3] => { results := [.lit (.bool false)], args := [d1, d2, d3] }
  | _ => none }
def MeanDropsWrongFalsely : Prop := meanDropsRow.holds Tryz.pinned (OpenSpec.ofChange meanDropsWrong)

/-- 'capstanlaw17.MeanForgets': WHATEVER THE INPUT: true; the input reads as it did. -/
def meanForgetsSpec : ChangeSpec := { name := "meanForgets", fn := fun _ => fun
  | [d1, d2, d3] => { results := [.lit (.bool true)], args := [d1, d2, d3] }
  | _ => none }
def meanForgetsRow : OpenClaim := { program := "ytpkknifbocfeaaagreatdoor", sum := "136da815858bf4d617534fc4c939f4447d2d3014140089e890590a41589d1f96", func := "capstan/capstanlaw17.MeanForgets", spec := "meanForgets", inPlace := ["math/bits.Sub64", "math/bits.Add64", "internal/reflectlite.ValueOf", "(internal/reflectlite.Value).Type", "(internal/reflectlite.Value).IsNil", "internal/reflectlite.TypeOf", "(internal/reflectlite.Value).Elem", "(internal/reflectlite.Value).Set"], unfollowed := true, recurses := true, named := ["capstan/cron.fields", "math/bits.divideError", "math/bits.overflowError", "errors.errorType", "capstan/civil.lengths"], loops := true, apart := false, laid := [("capstan/civil.lengths", laid_capstan_civil_lengths), ("errors.errorType", laid_errors_errorType), ("capstan/cron.fields", laid_capstan_cron_fields)] }
def MeanForgetsSaid : Prop := meanForgetsRow.holds Tryz.pinned (OpenSpec.ofChange meanForgetsSpec)

/-- ITS FALSE NEIGHBOUR: 'it returns false'. Refute it at one input. -/
def meanForgetsWrong : ChangeSpec := { name := "meanForgets", fn := fun _ => fun
  | [d1, d2, d3] => { results := [.lit (.bool false)], args := [d1, d2, d3] }
  | _ => none }
def MeanForgetsWrongFalsely : Prop := meanForgetsRow.holds Tryz.pinned (OpenSpec.ofChange meanForgetsWrong)

/- THE SECOND FORM. 'bulk': how many values and letters a reading holds, each counted each time it is reached (what is shared counts as often as it is met; a slice's spare places count too). A statement '..UptoSaid' is the law's where the arguments, and the package variables that the reading takes, are together of bulk at most 1048576: NARROWER than '..Said'. Prove '..Said' where nothing that the law and all that it calls make is longer than what came in: it says more and counts as full. Else prove '..UptoSaid'. A law counts once. -/
mutual
def uptoBulk {H : Type} : DataW H → Nat
  | .lit (.string bytes) => bytes.length + 1
  | .lit _ => 1
  | .nil => 1
  | .ptr d => uptoBulk d + 1
  | .slice elems spare => uptoBulkAll elems + uptoBulkAll spare + 1
  | .agg parts => uptoBulkAll parts + 1
  | .iface _ d => uptoBulk d + 1
  | .map entries => uptoBulkEntries entries + 1
  | .held _ => 1
def uptoBulkAll {H : Type} : List (DataW H) → Nat
  | [] => 0
  | d :: r => uptoBulk d + uptoBulkAll r
def uptoBulkEntries {H : Type} : List (Lit × DataW H) → Nat
  | [] => 0
  | x :: r => uptoBulkEntry x + uptoBulkEntries r
def uptoBulkEntry {H : Type} : Lit × DataW H → Nat
  | (.string bytes, d) => bytes.length + uptoBulk d + 1
  | (_, d) => uptoBulk d + 1
 end
def uptoSmall : (H : Type) → List (DataW H) → Bool := fun _ ds => decide (uptoBulkAll ds ≤ 1048576)
def OpenSpec.upto (s : _root_.Go.ChangeSpec) : _root_.Go.OpenSpec := { _root_.Go.OpenSpec.ofChange s with cond := some uptoSmall }

/-- 'capstanlaw15.CoreCopies', WHERE WHAT IT READS IS OF BULK AT MOST 1048576: true; the input reads as it did. -/
def coreCopiesUptoRow : OpenClaim := { program := "ytpkknifbocfeaaagreatdoor", sum := "136da815858bf4d617534fc4c939f4447d2d3014140089e890590a41589d1f96", func := "capstan/capstanlaw15.CoreCopies", spec := "coreCopies", inPlace := ["math/bits.Sub64", "math/bits.Add64", "internal/reflectlite.ValueOf", "(internal/reflectlite.Value).Type", "(internal/reflectlite.Value).IsNil", "internal/reflectlite.TypeOf", "(internal/reflectlite.Value).Elem", "(internal/reflectlite.Value).Set"], unfollowed := true, recurses := true, named := ["math/bits.divideError", "math/bits.overflowError", "errors.errorType"], loops := true, apart := false, laid := [("errors.errorType", laid_errors_errorType)], narrowed := true }
def CoreCopiesUptoSaid : Prop := coreCopiesUptoRow.holds Tryz.pinned (OpenSpec.upto coreCopiesSpec)

/-- 'capstanlaw17.MeanTakes', WHERE WHAT IT READS IS OF BULK AT MOST 1048576: true; the input reads as it did. -/
def meanTakesUptoRow : OpenClaim := { program := "ytpkknifbocfeaaagreatdoor", sum := "136da815858bf4d617534fc4c939f4447d2d3014140089e890590a41589d1f96", func := "capstan/capstanlaw17.MeanTakes", spec := "meanTakes", inPlace := ["math/bits.Sub64", "math/bits.Add64", "internal/reflectlite.ValueOf", "(internal/reflectlite.Value).Type", "(internal/reflectlite.Value).IsNil", "internal/reflectlite.TypeOf", "(internal/reflectlite.Value).Elem", "(internal/reflectlite.Value).Set"], unfollowed := true, recurses := true, named := ["capstan/cron.fields", "math/bits.divideError", "math/bits.overflowError", "errors.errorType", "capstan/civil.lengths"], apart := false, laid := [("capstan/civil.lengths", laid_capstan_civil_lengths), ("errors.errorType", laid_errors_errorType), ("capstan/cron.fields", laid_capstan_cron_fields)], narrowed := true }
def MeanTakesUptoSaid : Prop := meanTakesUptoRow.holds Tryz.pinned (OpenSpec.upto meanTakesSpec)

/-- 'capstanlaw17.MeanSees', WHERE WHAT IT READS IS OF BULK AT MOST 1048576: true; the input reads as it did. -/
def meanSeesUptoRow : OpenClaim := { program := "ytpkknifbocfeaaagreatdoor", sum := "136da815858bf4d617534fc4c939f4447d2d3014140089e890590a41589d1f96", func := "capstan/capstanlaw17.MeanSees", spec := "meanSees", inPlace := ["math/bits.Sub64", "math/bits.Add64", "internal/reflectlite.ValueOf", "(internal/reflectlite.Value).Type", "(internal/reflectlite.Value).IsNil", "internal/reflectlite.TypeOf", "(internal/reflectlite.Value).Elem", "(internal/reflectlite.Value).Set"], unfollowed := true, recurses := true, named := ["capstan/cron.fields", "math/bits.divideError", "math/bits.overflowError", "errors.errorType", "capstan/civil.lengths"], loops := true, apart := false, laid := [("capstan/civil.lengths", laid_capstan_civil_lengths), ("errors.errorType", laid_errors_errorType), ("capstan/cron.fields", laid_capstan_cron_fields)], narrowed := true }
def MeanSeesUptoSaid : Prop := meanSeesUptoRow.holds Tryz.pinned (OpenSpec.upto meanSeesSpec)

/-- 'capstanlaw17.MeanDecides', WHERE WHAT IT READS IS OF BULK AT MOST 1048576: true; the input reads as it did. -/
def meanDecidesUptoRow : OpenClaim := { program := "ytpkknifbocfeaaagreatdoor", sum := "136da815858bf4d617534fc4c939f4447d2d3014140089e890590a41589d1f96", func := "capstan/capstanlaw17.MeanDecides", spec := "meanDecides", inPlace := ["math/bits.Sub64", "math/bits.Add64", "internal/reflectlite.ValueOf", "(internal/reflectlite.Value).Type", "(internal/reflectlite.Value).IsNil", "internal/reflectlite.TypeOf", "(internal/reflectlite.Value).Elem", "(internal/reflectlite.Value).Set"], unfollowed := true, recurses := true, named := ["capstan/cron.fields", "math/bits.divideError", "math/bits.overflowError", "errors.errorType", "capstan/civil.lengths"], loops := true, apart := false, laid := [("capstan/civil.lengths", laid_capstan_civil_lengths), ("errors.errorType", laid_errors_errorType), ("capstan/cron.fields", laid_capstan_cron_fields)], narrowed := true }
def MeanDecidesUptoSaid : Prop := meanDecidesUptoRow.holds Tryz.pinned (OpenSpec.upto meanDecidesSpec)

/-- 'capstanlaw17.MeanDrops', WHERE WHAT IT READS IS OF BULK AT MOST 1048576: true; the input reads as it did. -/
def meanDropsUptoRow : OpenClaim := { program := "ytpkknifbocfeaaagreatdoor", sum := "136da815858bf4d617534fc4c939f4447d2d3014140089e890590a41589d1f96", func := "capstan/capstanlaw17.MeanDrops", spec := "meanDrops", inPlace := ["math/bits.Sub64", "math/bits.Add64", "internal/reflectlite.ValueOf", "(internal/reflectlite.Value).Type", "(internal/reflectlite.Value).IsNil", "internal/reflectlite.TypeOf", "(internal/reflectlite.Value).Elem", "(internal/reflectlite.Value).Set"], unfollowed := true, recurses := true, named := ["capstan/cron.fields", "math/bits.divideError", "math/bits.overflowError", "errors.errorType", "capstan/civil.lengths"], loops := true, apart := false, laid := [("capstan/civil.lengths", laid_capstan_civil_lengths), ("errors.errorType", laid_errors_errorType), ("capstan/cron.fields", laid_capstan_cron_fields)], narrowed := true }
def MeanDropsUptoSaid : Prop := meanDropsUptoRow.holds Tryz.pinned (OpenSpec.upto meanDropsSpec)

/-- 'capstanlaw17.MeanForgets', WHERE WHAT IT READS IS OF BULK AT MOST 1048576: true; the input reads as it did. -/
def meanForgetsUptoRow : OpenClaim := { program := "ytpkknifbocfeaaagreatdoor", sum := "136da815858bf4d617534fc4c939f4447d2d3014140089e890590a41589d1f96", func := "capstan/capstanlaw17.MeanForgets", spec := "meanForgets", inPlace := ["math/bits.Sub64", "math/bits.Add64", "internal/reflectlite.ValueOf", "(internal/reflectlite.Value).Type", "(internal/reflectlite.Value).IsNil", "internal/reflectlite.TypeOf", "(internal/reflectlite.Value).Elem", "(internal/reflectlite.Value).Set"], unfollowed := true, recurses := true, named := ["capstan/cron.fields", "math/bits.divideError", "math/bits.overflowError", "errors.errorType", "capstan/civil.lengths"], loops := true, apart := false, laid := [("capstan/civil.lengths", laid_capstan_civil_lengths), ("errors.errorType", laid_errors_errorType), ("capstan/cron.fields", laid_capstan_cron_fields)], narrowed := true }
def MeanForgetsUptoSaid : Prop := meanForgetsUptoRow.holds Tryz.pinned (OpenSpec.upto meanForgetsSpec)

end Rows
end Go.Proofs.YtpkknifbocfeaaaGreatDoor

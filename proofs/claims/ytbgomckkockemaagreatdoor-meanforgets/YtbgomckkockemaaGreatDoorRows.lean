/-
  NARROWER THAN 'FOR EVERY INPUT', by the rows' own cells (each row's printed sentence says how): MeanSees: loops, laid · MeanDecides: loops, laid · MeanForgets: loops, laid · FoldPlans: loops, laid · FoldMeans: loops, laid · PrunePlans: loops, laid · PruneMeans: loops, laid · PruneLeast: loops, laid · PruneRungs: laid · PruneKeeps: loops, laid.
  DERIVED. THE GIVEN ROWS OF THIS SEAT. 10 by the template 'for every input the law returns true; each argument reads behind the call as it read before'; 0 by the template 'total and deterministic' (their statements: YtbgomckkockemaaGreatDoorTotals.lean).
  GIVEN WITH THE SEED: the statements are not yours to turn. If you find one false, say at which input.
  Laid BY PROGRAM, IN A SANDBOX (cutbox-rows.mjs): the forced cells as the released guide's own fill.sh prints them over the translation 76188b60a8ed1a05… (all of the seat's roots in one cut). By AI agents, Wed Nov 11 2026. No macro, syntax, notation, axiom, sorry.
-/
import Derived.Test.YtbgomckkockemaaGreatDoorChecked
import GoSem.Claim
import GoSem.ClaimJoined
import GoSem.ClaimMapViews
import Derived.JoinedTies
import Derived.KernelRfl
namespace Go.Proofs.YtbgomckkockemaaGreatDoor
/- THE CELL 'sum', in the pinned program and in every row, IS THE sha256 OF THE DUMP (.gsa) THAT YtbgomckkockemaaGreatDoorProg.lean LOADS. Nothing in Lean hashes anything: it is a label: what it is worth is what the hold of that sum in a sandbox is worth. -/
noncomputable def Tryz.pinned : Pinned := { name := "ytbgomckkockemaagreatdoor", sum := "76188b60a8ed1a05dece19a9ec528d44a508d3a1dc1bf592e7704478deebb8f5", checked := Tryz.checked }
namespace Rows
def none {H : Type} : Left H := { results := [], args := [] }

/- WHAT THE LISTED PACKAGE-LEVEL VARIABLES READ AS WHEN THE CALL BEGINS. Each datum BY PROGRAM (the guide's laid-datum.mjs) off the statement by which the dump's own 'gosem.cut.vars' lays the variable. In a bare row this is a premise. The card (YtbgomckkockemaaGreatDoorCards.lean) ties it to the program's text. -/
def laid_capstan_civil_lengths {H : Type} : DataW H := .agg [.lit (.int .i64 31), .lit (.int .i64 28), .lit (.int .i64 31), .lit (.int .i64 30), .lit (.int .i64 31), .lit (.int .i64 30), .lit (.int .i64 31), .lit (.int .i64 31), .lit (.int .i64 30), .lit (.int .i64 31), .lit (.int .i64 30), .lit (.int .i64 31)]
def laid_errors_errorType {H : Type} : DataW H := .iface "internal/reflectlite.rtype" (.agg [.ptr (.lit (.string [101, 114, 114, 111, 114]))])
def laid_capstan_cron_fields {H : Type} : DataW H := .agg [.agg [.lit (.int .i64 0), .lit (.int .i64 59)], .agg [.lit (.int .i64 0), .lit (.int .i64 23)], .agg [.lit (.int .i64 1), .lit (.int .i64 31)], .agg [.lit (.int .i64 1), .lit (.int .i64 12)], .agg [.lit (.int .i64 0), .lit (.int .i64 6)]]

/-- 'capstanlaw17.MeanSees': WHATEVER THE INPUT: true; the input reads as it did. -/
def meanSeesSpec : ChangeSpec := { name := "meanSees", fn := fun _ => fun
  | [d1, d2, d3] => { results := [.lit (.bool true)], args := [d1, d2, d3] }
  | _ => none }
def meanSeesRow : OpenClaim := { program := "ytbgomckkockemaagreatdoor", sum := "76188b60a8ed1a05dece19a9ec528d44a508d3a1dc1bf592e7704478deebb8f5", func := "capstan/capstanlaw17.MeanSees", spec := "meanSees", inPlace := ["math/bits.Sub64", "math/bits.Add64", "internal/reflectlite.ValueOf", "(internal/reflectlite.Value).Type", "(internal/reflectlite.Value).IsNil", "internal/reflectlite.TypeOf", "(internal/reflectlite.Value).Elem", "(internal/reflectlite.Value).Set"], unfollowed := true, recurses := true, named := ["capstan/cron.fields", "math/bits.divideError", "math/bits.overflowError", "errors.errorType", "capstan/civil.lengths"], loops := true, apart := false, laid := [("capstan/civil.lengths", laid_capstan_civil_lengths), ("errors.errorType", laid_errors_errorType), ("capstan/cron.fields", laid_capstan_cron_fields)] }
def MeanSeesSaid : Prop := meanSeesRow.holds Tryz.pinned (OpenSpec.ofChange meanSeesSpec)

/-- ITS FALSE NEIGHBOUR: 'it returns false'. Refute it at one input. -/
def meanSeesWrong : ChangeSpec := { name := "meanSees", fn := fun _ => fun
  | [d1, d2, d3] => { results := [.lit (.bool false)], args := [d1, d2, d3] }
  | _ => none }
def MeanSeesWrongFalsely : Prop := meanSeesRow.holds Tryz.pinned (OpenSpec.ofChange meanSeesWrong)

/-- 'capstanlaw17.MeanDecides': WHATEVER THE INPUT: true; the input reads as it did. -/
def meanDecidesSpec : ChangeSpec := { name := "meanDecides", fn := fun _ => fun
  | [d1, d2, d3] => { results := [.lit (.bool true)], args := [d1, d2, d3] }
  | _ => none }
def meanDecidesRow : OpenClaim := { program := "ytbgomckkockemaagreatdoor", sum := "76188b60a8ed1a05dece19a9ec528d44a508d3a1dc1bf592e7704478deebb8f5", func := "capstan/capstanlaw17.MeanDecides", spec := "meanDecides", inPlace := ["math/bits.Sub64", "math/bits.Add64", "internal/reflectlite.ValueOf", "(internal/reflectlite.Value).Type", "(internal/reflectlite.Value).IsNil", "internal/reflectlite.TypeOf", "(internal/reflectlite.Value).Elem", "(internal/reflectlite.Value).Set"], unfollowed := true, recurses := true, named := ["capstan/cron.fields", "math/bits.divideError", "math/bits.overflowError", "errors.errorType", "capstan/civil.lengths"], loops := true, apart := false, laid := [("capstan/civil.lengths", laid_capstan_civil_lengths), ("errors.errorType", laid_errors_errorType), ("capstan/cron.fields", laid_capstan_cron_fields)] }
def MeanDecidesSaid : Prop := meanDecidesRow.holds Tryz.pinned (OpenSpec.ofChange meanDecidesSpec)

/-- ITS FALSE NEIGHBOUR: 'it returns false'. Refute it at one input. -/
def meanDecidesWrong : ChangeSpec := { name := "meanDecides", fn := fun _ => fun
  | [d1, d2, d3] => { results := [.lit (.bool false)], args := [d1, d2, d3] }
  | _ => none }
def MeanDecidesWrongFalsely : Prop := meanDecidesRow.holds Tryz.pinned (OpenSpec.ofChange meanDecidesWrong)

/-- 'capstanlaw17.MeanForgets': WHATEVER THE INPUT: true; the input reads as it did. -/
def meanForgetsSpec : ChangeSpec := { name := "meanForgets", fn := fun _ => fun
  | [d1, d2, d3] => { results := [.lit (.bool true)], args := [d1, d2, d3] }
  | _ => none }
def meanForgetsRow : OpenClaim := { program := "ytbgomckkockemaagreatdoor", sum := "76188b60a8ed1a05dece19a9ec528d44a508d3a1dc1bf592e7704478deebb8f5", func := "capstan/capstanlaw17.MeanForgets", spec := "meanForgets", inPlace := ["math/bits.Sub64", "math/bits.Add64", "internal/reflectlite.ValueOf", "(internal/reflectlite.Value).Type", "(internal/reflectlite.Value).IsNil", "internal/reflectlite.TypeOf", "(internal/reflectlite.Value).Elem", "(internal/reflectlite.Value).Set"], unfollowed := true, recurses := true, named := ["capstan/cron.fields", "math/bits.divideError", "math/bits.overflowError", "errors.errorType", "capstan/civil.lengths"], loops := true, apart := false, laid := [("capstan/civil.lengths", laid_capstan_civil_lengths), ("errors.errorType", laid_errors_errorType), ("capstan/cron.fields", laid_capstan_cron_fields)] }
def MeanForgetsSaid : Prop := meanForgetsRow.holds Tryz.pinned (OpenSpec.ofChange meanForgetsSpec)

/-- ITS FALSE NEIGHBOUR: 'it returns false'. Refute it at one input. -/
def meanForgetsWrong : ChangeSpec := { name := "meanForgets", fn := fun _ => fun
  | [d1, d2, d3] => { results := [.lit (.bool false)], args := [d1, d2, d3] }
  | _ => none }
def MeanForgetsWrongFalsely : Prop := meanForgetsRow.holds Tryz.pinned (OpenSpec.ofChange meanForgetsWrong)

/-- 'capstanlaw18.FoldPlans': WHATEVER THE INPUT: true; the input reads as it did. -/
def foldPlansSpec : ChangeSpec := { name := "foldPlans", fn := fun _ => fun
  | [d] => { results := [.lit (.bool true)], args := [d] }
  | _ => none }
def foldPlansRow : OpenClaim := { program := "ytbgomckkockemaagreatdoor", sum := "76188b60a8ed1a05dece19a9ec528d44a508d3a1dc1bf592e7704478deebb8f5", func := "capstan/capstanlaw18.FoldPlans", spec := "foldPlans", inPlace := ["math/bits.Sub64", "math/bits.Add64", "internal/reflectlite.ValueOf", "(internal/reflectlite.Value).Type", "(internal/reflectlite.Value).IsNil", "internal/reflectlite.TypeOf", "(internal/reflectlite.Value).Elem", "(internal/reflectlite.Value).Set"], unfollowed := true, recurses := true, named := ["math/bits.divideError", "math/bits.overflowError", "errors.errorType", "capstan/cron.fields"], loops := true, apart := false, laid := [("errors.errorType", laid_errors_errorType), ("capstan/cron.fields", laid_capstan_cron_fields)] }
def FoldPlansSaid : Prop := foldPlansRow.holds Tryz.pinned (OpenSpec.ofChange foldPlansSpec)

/-- ITS FALSE NEIGHBOUR: 'it returns false'. Refute it at one input. -/
def foldPlansWrong : ChangeSpec := { name := "foldPlans", fn := fun _ => fun
  | [d] => { results := [.lit (.bool false)], args := [d] }
  | _ => none }
def FoldPlansWrongFalsely : Prop := foldPlansRow.holds Tryz.pinned (OpenSpec.ofChange foldPlansWrong)

/-- 'capstanlaw18.FoldMeans': WHATEVER THE INPUT: true; the input reads as it did. -/
def foldMeansSpec : ChangeSpec := { name := "foldMeans", fn := fun _ => fun
  | [d1, d2] => { results := [.lit (.bool true)], args := [d1, d2] }
  | _ => none }
def foldMeansRow : OpenClaim := { program := "ytbgomckkockemaagreatdoor", sum := "76188b60a8ed1a05dece19a9ec528d44a508d3a1dc1bf592e7704478deebb8f5", func := "capstan/capstanlaw18.FoldMeans", spec := "foldMeans", inPlace := ["math/bits.Sub64", "math/bits.Add64", "internal/reflectlite.ValueOf", "(internal/reflectlite.Value).Type", "(internal/reflectlite.Value).IsNil", "internal/reflectlite.TypeOf", "(internal/reflectlite.Value).Elem", "(internal/reflectlite.Value).Set"], unfollowed := true, recurses := true, named := ["math/bits.divideError", "math/bits.overflowError", "errors.errorType", "capstan/cron.fields"], loops := true, apart := false, laid := [("errors.errorType", laid_errors_errorType), ("capstan/cron.fields", laid_capstan_cron_fields)] }
def FoldMeansSaid : Prop := foldMeansRow.holds Tryz.pinned (OpenSpec.ofChange foldMeansSpec)

/-- ITS FALSE NEIGHBOUR: 'it returns false'. Refute it at one input. -/
def foldMeansWrong : ChangeSpec := { name := "foldMeans", fn := fun _ => fun
  | [d1, d2] => { results := [.lit (.bool false)], args := [d1, d2] }
  | _ => none }
def FoldMeansWrongFalsely : Prop := foldMeansRow.holds Tryz.pinned (OpenSpec.ofChange foldMeansWrong)

/-- 'capstanlaw19.PrunePlans': WHATEVER THE INPUT: true; the input reads as it did. -/
def prunePlansSpec : ChangeSpec := { name := "prunePlans", fn := fun _ => fun
  | [d] => { results := [.lit (.bool true)], args := [d] }
  | _ => none }
def prunePlansRow : OpenClaim := { program := "ytbgomckkockemaagreatdoor", sum := "76188b60a8ed1a05dece19a9ec528d44a508d3a1dc1bf592e7704478deebb8f5", func := "capstan/capstanlaw19.PrunePlans", spec := "prunePlans", inPlace := ["math/bits.Sub64", "math/bits.Add64", "internal/reflectlite.ValueOf", "(internal/reflectlite.Value).Type", "(internal/reflectlite.Value).IsNil", "internal/reflectlite.TypeOf", "(internal/reflectlite.Value).Elem", "(internal/reflectlite.Value).Set"], unfollowed := true, recurses := true, named := ["capstan/cron.fields", "math/bits.divideError", "math/bits.overflowError", "errors.errorType"], loops := true, apart := false, laid := [("errors.errorType", laid_errors_errorType), ("capstan/cron.fields", laid_capstan_cron_fields)] }
def PrunePlansSaid : Prop := prunePlansRow.holds Tryz.pinned (OpenSpec.ofChange prunePlansSpec)

/-- ITS FALSE NEIGHBOUR: 'it returns false'. Refute it at one input. -/
def prunePlansWrong : ChangeSpec := { name := "prunePlans", fn := fun _ => fun
  | [d] => { results := [.lit (.bool false)], args := [d] }
  | _ => none }
def PrunePlansWrongFalsely : Prop := prunePlansRow.holds Tryz.pinned (OpenSpec.ofChange prunePlansWrong)

/-- 'capstanlaw19.PruneMeans': WHATEVER THE INPUT: true; the input reads as it did. -/
def pruneMeansSpec : ChangeSpec := { name := "pruneMeans", fn := fun _ => fun
  | [d1, d2, d3] => { results := [.lit (.bool true)], args := [d1, d2, d3] }
  | _ => none }
def pruneMeansRow : OpenClaim := { program := "ytbgomckkockemaagreatdoor", sum := "76188b60a8ed1a05dece19a9ec528d44a508d3a1dc1bf592e7704478deebb8f5", func := "capstan/capstanlaw19.PruneMeans", spec := "pruneMeans", inPlace := ["math/bits.Sub64", "math/bits.Add64", "internal/reflectlite.ValueOf", "(internal/reflectlite.Value).Type", "(internal/reflectlite.Value).IsNil", "internal/reflectlite.TypeOf", "(internal/reflectlite.Value).Elem", "(internal/reflectlite.Value).Set"], unfollowed := true, recurses := true, named := ["capstan/cron.fields", "math/bits.divideError", "math/bits.overflowError", "errors.errorType"], loops := true, apart := false, laid := [("errors.errorType", laid_errors_errorType), ("capstan/cron.fields", laid_capstan_cron_fields)] }
def PruneMeansSaid : Prop := pruneMeansRow.holds Tryz.pinned (OpenSpec.ofChange pruneMeansSpec)

/-- ITS FALSE NEIGHBOUR: 'it returns false'. Refute it at one input. -/
def pruneMeansWrong : ChangeSpec := { name := "pruneMeans", fn := fun _ => fun
  | [d1, d2, d3] => { results := [.lit (.bool false)], args := [d1, d2, d3] }
  | _ => none }
def PruneMeansWrongFalsely : Prop := pruneMeansRow.holds Tryz.pinned (OpenSpec.ofChange pruneMeansWrong)

/-- 'capstanlaw19.PruneLeast': WHATEVER THE INPUT: true; the input reads as it did. -/
def pruneLeastSpec : ChangeSpec := { name := "pruneLeast", fn := fun _ => fun
  | [d] => { results := [.lit (.bool true)], args := [d] }
  | _ => none }
def pruneLeastRow : OpenClaim := { program := "ytbgomckkockemaagreatdoor", sum := "76188b60a8ed1a05dece19a9ec528d44a508d3a1dc1bf592e7704478deebb8f5", func := "capstan/capstanlaw19.PruneLeast", spec := "pruneLeast", inPlace := ["math/bits.Sub64", "math/bits.Add64", "internal/reflectlite.ValueOf", "(internal/reflectlite.Value).Type", "(internal/reflectlite.Value).IsNil", "internal/reflectlite.TypeOf", "(internal/reflectlite.Value).Elem", "(internal/reflectlite.Value).Set"], unfollowed := true, recurses := true, named := ["capstan/cron.fields", "math/bits.divideError", "math/bits.overflowError", "errors.errorType"], loops := true, apart := false, laid := [("errors.errorType", laid_errors_errorType), ("capstan/cron.fields", laid_capstan_cron_fields)] }
def PruneLeastSaid : Prop := pruneLeastRow.holds Tryz.pinned (OpenSpec.ofChange pruneLeastSpec)

/-- ITS FALSE NEIGHBOUR: 'it returns false'. Refute it at one input. -/
def pruneLeastWrong : ChangeSpec := { name := "pruneLeast", fn := fun _ => fun
  | [d] => { results := [.lit (.bool false)], args := [d] }
  | _ => none }
def PruneLeastWrongFalsely : Prop := pruneLeastRow.holds Tryz.pinned (OpenSpec.ofChange pruneLeastWrong)

/-- 'capstanlaw19.PruneRungs': WHATEVER THE INPUT: true; the input reads as it did. -/
def pruneRungsSpec : ChangeSpec := { name := "pruneRungs", fn := fun _ => fun
  | [d1, d2, d3] => { results := [.lit (.bool true)], args := [d1, d2, d3] }
  | _ => none }
def pruneRungsRow : OpenClaim := { program := "ytbgomckkockemaagreatdoor", sum := "76188b60a8ed1a05dece19a9ec528d44a508d3a1dc1bf592e7704478deebb8f5", func := "capstan/capstanlaw19.PruneRungs", spec := "pruneRungs", inPlace := ["math/bits.Sub64", "math/bits.Add64", "internal/reflectlite.ValueOf", "(internal/reflectlite.Value).Type", "(internal/reflectlite.Value).IsNil", "internal/reflectlite.TypeOf", "(internal/reflectlite.Value).Elem", "(internal/reflectlite.Value).Set"], unfollowed := true, recurses := true, named := ["capstan/cron.fields", "math/bits.divideError", "math/bits.overflowError", "errors.errorType"], apart := false, laid := [("errors.errorType", laid_errors_errorType), ("capstan/cron.fields", laid_capstan_cron_fields)] }
def PruneRungsSaid : Prop := pruneRungsRow.holds Tryz.pinned (OpenSpec.ofChange pruneRungsSpec)

/-- ITS FALSE NEIGHBOUR: 'it returns false'. Refute it at one input. -/
def pruneRungsWrong : ChangeSpec := { name := "pruneRungs", fn := fun _ => fun
  | [d1, d2, d3] => { results := [.lit (.bool false)], args := [d1, d2, d3] }
  | _ => none }
def PruneRungsWrongFalsely : Prop := pruneRungsRow.holds Tryz.pinned (OpenSpec.ofChange pruneRungsWrong)

/-- 'capstanlaw19.PruneKeeps': WHATEVER THE INPUT: true; the input reads as it did. -/
def pruneKeepsSpec : ChangeSpec := { name := "pruneKeeps", fn := fun _ => fun
  | [d] => { results := [.lit (.bool true)], args := [d] }
  | _ => none }
def pruneKeepsRow : OpenClaim := { program := "ytbgomckkockemaagreatdoor", sum := "76188b60a8ed1a05dece19a9ec528d44a508d3a1dc1bf592e7704478deebb8f5", func := "capstan/capstanlaw19.PruneKeeps", spec := "pruneKeeps", inPlace := ["math/bits.Sub64", "math/bits.Add64", "internal/reflectlite.ValueOf", "(internal/reflectlite.Value).Type", "(internal/reflectlite.Value).IsNil", "internal/reflectlite.TypeOf", "(internal/reflectlite.Value).Elem", "(internal/reflectlite.Value).Set"], unfollowed := true, recurses := true, named := ["capstan/cron.fields", "math/bits.divideError", "math/bits.overflowError", "errors.errorType"], loops := true, apart := false, laid := [("errors.errorType", laid_errors_errorType), ("capstan/cron.fields", laid_capstan_cron_fields)] }
def PruneKeepsSaid : Prop := pruneKeepsRow.holds Tryz.pinned (OpenSpec.ofChange pruneKeepsSpec)

/-- ITS FALSE NEIGHBOUR: 'it returns false'. Refute it at one input. -/
def pruneKeepsWrong : ChangeSpec := { name := "pruneKeeps", fn := fun _ => fun
  | [d] => { results := [.lit (.bool false)], args := [d] }
  | _ => none }
def PruneKeepsWrongFalsely : Prop := pruneKeepsRow.holds Tryz.pinned (OpenSpec.ofChange pruneKeepsWrong)

/- THE SECOND FORM. 'bulk': how many values and letters a reading holds, each counted each time it is reached (what is shared counts as often as it is met; a slice's spare places count too). A statement '..UptoSaid' is the law's where the arguments, and the package variables that the reading takes, are together of bulk at most 1048576: NARROWER than '..Said'. Prove '..Said' where nothing that the law and all that it calls make is longer than what came in: it says more and counts as full. Else prove '..UptoSaid'. A law counts once. -/
mutual
def uptoBulk {H : Type} : DataW H → Nat
  | .lit (.string bytes) => bytes.length + 1
  | .lit _ => 1
  | .nil => 1
  | .ptr d => uptoBulk d + 1
  | .slice elems spare => uptoBulkAll elems + uptoBulkAll spare + 1
  | .agg parts => uptoBulkAll parts + 1
  | .iface _ d => uptoBulk d + 1
  | .map entries => uptoBulkEntries entries + 1
  | .held _ => 1
def uptoBulkAll {H : Type} : List (DataW H) → Nat
  | [] => 0
  | d :: r => uptoBulk d + uptoBulkAll r
def uptoBulkEntries {H : Type} : List (Lit × DataW H) → Nat
  | [] => 0
  | x :: r => uptoBulkEntry x + uptoBulkEntries r
def uptoBulkEntry {H : Type} : Lit × DataW H → Nat
  | (.string bytes, d) => bytes.length + uptoBulk d + 1
  | (_, d) => uptoBulk d + 1
 end
def uptoSmall : (H : Type) → List (DataW H) → Bool := fun _ ds => decide (uptoBulkAll ds ≤ 1048576)
def OpenSpec.upto (s : _root_.Go.ChangeSpec) : _root_.Go.OpenSpec := { _root_.Go.OpenSpec.ofChange s with cond := some uptoSmall }

/-- 'capstanlaw17.MeanSees', WHERE WHAT IT READS IS OF BULK AT MOST 1048576: true; the input reads as it did. -/
def meanSeesUptoRow : OpenClaim := { program := "ytbgomckkockemaagreatdoor", sum := "76188b60a8ed1a05dece19a9ec528d44a508d3a1dc1bf592e7704478deebb8f5", func := "capstan/capstanlaw17.MeanSees", spec := "meanSees", inPlace := ["math/bits.Sub64", "math/bits.Add64", "internal/reflectlite.ValueOf", "(internal/reflectlite.Value).Type", "(internal/reflectlite.Value).IsNil", "internal/reflectlite.TypeOf", "(internal/reflectlite.Value).Elem", "(internal/reflectlite.Value).Set"], unfollowed := true, recurses := true, named := ["capstan/cron.fields", "math/bits.divideError", "math/bits.overflowError", "errors.errorType", "capstan/civil.lengths"], loops := true, apart := false, laid := [("capstan/civil.lengths", laid_capstan_civil_lengths), ("errors.errorType", laid_errors_errorType), ("capstan/cron.fields", laid_capstan_cron_fields)], narrowed := true }
def MeanSeesUptoSaid : Prop := meanSeesUptoRow.holds Tryz.pinned (OpenSpec.upto meanSeesSpec)

/-- 'capstanlaw17.MeanDecides', WHERE WHAT IT READS IS OF BULK AT MOST 1048576: true; the input reads as it did. -/
def meanDecidesUptoRow : OpenClaim := { program := "ytbgomckkockemaagreatdoor", sum := "76188b60a8ed1a05dece19a9ec528d44a508d3a1dc1bf592e7704478deebb8f5", func := "capstan/capstanlaw17.MeanDecides", spec := "meanDecides", inPlace := ["math/bits.Sub64", "math/bits.Add64", "internal/reflectlite.ValueOf", "(internal/reflectlite.Value).Type", "(internal/reflectlite.Value).IsNil", "internal/reflectlite.TypeOf", "(internal/reflectlite.Value).Elem", "(internal/reflectlite.Value).Set"], unfollowed := true, recurses := true, named := ["capstan/cron.fields", "math/bits.divideError", "math/bits.overflowError", "errors.errorType", "capstan/civil.lengths"], loops := true, apart := false, laid := [("capstan/civil.lengths", laid_capstan_civil_lengths), ("errors.errorType", laid_errors_errorType), ("capstan/cron.fields", laid_capstan_cron_fields)], narrowed := true }
def MeanDecidesUptoSaid : Prop := meanDecidesUptoRow.holds Tryz.pinned (OpenSpec.upto meanDecidesSpec)

/-- 'capstanlaw17.MeanForgets', WHERE WHAT IT READS IS OF BULK AT MOST 1048576: true; the input reads as it did. -/
def meanForgetsUptoRow : OpenClaim := { program := "ytbgomckkockemaagreatdoor", sum := "76188b60a8ed1a05dece19a9ec528d44a508d3a1dc1bf592e7704478deebb8f5", func := "capstan/capstanlaw17.MeanForgets", spec := "meanForgets", inPlace := ["math/bits.Sub64", "math/bits.Add64", "internal/reflectlite.ValueOf", "(internal/reflectlite.Value).Type", "(internal/reflectlite.Value).IsNil", "internal/reflectlite.TypeOf", "(internal/reflectlite.Value).Elem", "(internal/reflectlite.Value).Set"], unfollowed := true, recurses := true, named := ["capstan/cron.fields", "math/bits.divideError", "math/bits.overflowError", "errors.errorType", "capstan/civil.lengths"], loops := true, apart := false, laid := [("capstan/civil.lengths", laid_capstan_civil_lengths), ("errors.errorType", laid_errors_errorType), ("capstan/cron.fields", laid_capstan_cron_fields)], narrowed := true }
def MeanForgetsUptoSaid : Prop := meanForgetsUptoRow.holds Tryz.pinned (OpenSpec.upto meanForgetsSpec)

/-- 'capstanlaw18.FoldPlans', WHERE WHAT IT READS IS OF BULK AT MOST 1048576: true; the input reads as it did. -/
def foldPlansUptoRow : OpenClaim := { program := "ytbgomckkockemaagreatdoor", sum := "76188b60a8ed1a05dece19a9ec528d44a508d3a1dc1bf592e7704478deebb8f5", func := "capstan/capstanlaw18.FoldPlans", spec := "foldPlans", inPlace := ["math/bits.Sub64", "math/bits.Add64", "internal/reflectlite.ValueOf", "(internal/reflectlite.Value).Type", "(internal/reflectlite.Value).IsNil", "internal/reflectlite.TypeOf", "(internal/reflectlite.Value).Elem", "(internal/reflectlite.Value).Set"], unfollowed := true, recurses := true, named := ["math/bits.divideError", "math/bits.overflowError", "errors.errorType", "capstan/cron.fields"], loops := true, apart := false, laid := [("errors.errorType", laid_errors_errorType), ("capstan/cron.fields", laid_capstan_cron_fields)], narrowed := true }
def FoldPlansUptoSaid : Prop := foldPlansUptoRow.holds Tryz.pinned (OpenSpec.upto foldPlansSpec)

/-- 'capstanlaw18.FoldMeans', WHERE WHAT IT READS IS OF BULK AT MOST 1048576: true; the input reads as it did. -/
def foldMeansUptoRow : OpenClaim := { program := "ytbgomckkockemaagreatdoor", sum := "76188b60a8ed1a05dece19a9ec528d44a508d3a1dc1bf592e7704478deebb8f5", func := "capstan/capstanlaw18.FoldMeans", spec := "foldMeans", inPlace := ["math/bits.Sub64", "math/bits.Add64", "internal/reflectlite.ValueOf", "(internal/reflectlite.Value).Type", "(internal/reflectlite.Value).IsNil", "internal/reflectlite.TypeOf", "(internal/reflectlite.Value).Elem", "(internal/reflectlite.Value).Set"], unfollowed := true, recurses := true, named := ["math/bits.divideError", "math/bits.overflowError", "errors.errorType", "capstan/cron.fields"], loops := true, apart := false, laid := [("errors.errorType", laid_errors_errorType), ("capstan/cron.fields", laid_capstan_cron_fields)], narrowed := true }
def FoldMeansUptoSaid : Prop := foldMeansUptoRow.holds Tryz.pinned (OpenSpec.upto foldMeansSpec)

/-- 'capstanlaw19.PrunePlans', WHERE WHAT IT READS IS OF BULK AT MOST 1048576: true; the input reads as it did. -/
def prunePlansUptoRow : OpenClaim := { program := "ytbgomckkockemaagreatdoor", sum := "76188b60a8ed1a05dece19a9ec528d44a508d3a1dc1bf592e7704478deebb8f5", func := "capstan/capstanlaw19.PrunePlans", spec := "prunePlans", inPlace := ["math/bits.Sub64", "math/bits.Add64", "internal/reflectlite.ValueOf", "(internal/reflectlite.Value).Type", "(internal/reflectlite.Value).IsNil", "internal/reflectlite.TypeOf", "(internal/reflectlite.Value).Elem", "(internal/reflectlite.Value).Set"], unfollowed := true, recurses := true, named := ["capstan/cron.fields", "math/bits.divideError", "math/bits.overflowError", "errors.errorType"], loops := true, apart := false, laid := [("errors.errorType", laid_errors_errorType), ("capstan/cron.fields", laid_capstan_cron_fields)], narrowed := true }
def PrunePlansUptoSaid : Prop := prunePlansUptoRow.holds Tryz.pinned (OpenSpec.upto prunePlansSpec)

/-- 'capstanlaw19.PruneMeans', WHERE WHAT IT READS IS OF BULK AT MOST 1048576: true; the input reads as it did. -/
def pruneMeansUptoRow : OpenClaim := { program := "ytbgomckkockemaagreatdoor", sum := "76188b60a8ed1a05dece19a9ec528d44a508d3a1dc1bf592e7704478deebb8f5", func := "capstan/capstanlaw19.PruneMeans", spec := "pruneMeans", inPlace := ["math/bits.Sub64", "math/bits.Add64", "internal/reflectlite.ValueOf", "(internal/reflectlite.Value).Type", "(internal/reflectlite.Value).IsNil", "internal/reflectlite.TypeOf", "(internal/reflectlite.Value).Elem", "(internal/reflectlite.Value).Set"], unfollowed := true, recurses := true, named := ["capstan/cron.fields", "math/bits.divideError", "math/bits.overflowError", "errors.errorType"], loops := true, apart := false, laid := [("errors.errorType", laid_errors_errorType), ("capstan/cron.fields", laid_capstan_cron_fields)], narrowed := true }
def PruneMeansUptoSaid : Prop := pruneMeansUptoRow.holds Tryz.pinned (OpenSpec.upto pruneMeansSpec)

/-- 'capstanlaw19.PruneLeast', WHERE WHAT IT READS IS OF BULK AT MOST 1048576: true; the input reads as it did. -/
def pruneLeastUptoRow : OpenClaim := { program := "ytbgomckkockemaagreatdoor", sum := "76188b60a8ed1a05dece19a9ec528d44a508d3a1dc1bf592e7704478deebb8f5", func := "capstan/capstanlaw19.PruneLeast", spec := "pruneLeast", inPlace := ["math/bits.Sub64", "math/bits.Add64", "internal/reflectlite.ValueOf", "(internal/reflectlite.Value).Type", "(internal/reflectlite.Value).IsNil", "internal/reflectlite.TypeOf", "(internal/reflectlite.Value).Elem", "(internal/reflectlite.Value).Set"], unfollowed := true, recurses := true, named := ["capstan/cron.fields", "math/bits.divideError", "math/bits.overflowError", "errors.errorType"], loops := true, apart := false, laid := [("errors.errorType", laid_errors_errorType), ("capstan/cron.fields", laid_capstan_cron_fields)], narrowed := true }
def PruneLeastUptoSaid : Prop := pruneLeastUptoRow.holds Tryz.pinned (OpenSpec.upto pruneLeastSpec)

/-- 'capstanlaw19.PruneRungs', WHERE WHAT IT READS IS OF BULK AT MOST 1048576: true; the input reads as it did. -/
def pruneRungsUptoRow : OpenClaim := { program := "ytbgomckkockemaagreatdoor", sum := "76188b60a8ed1a05dece19a9ec528d44a508d3a1dc1bf592e7704478deebb8f5", func := "capstan/capstanlaw19.PruneRungs", spec := "pruneRungs", inPlace := ["math/bits.Sub64", "math/bits.Add64", "internal/reflectlite.ValueOf", "(internal/reflectlite.Value).Type", "(internal/reflectlite.Value).IsNil", "internal/reflectlite.TypeOf", "(internal/reflectlite.Value).Elem", "(internal/reflectlite.Value).Set"], unfollowed := true, recurses := true, named := ["capstan/cron.fields", "math/bits.divideError", "math/bits.overflowError", "errors.errorType"], apart := false, laid := [("errors.errorType", laid_errors_errorType), ("capstan/cron.fields", laid_capstan_cron_fields)], narrowed := true }
def PruneRungsUptoSaid : Prop := pruneRungsUptoRow.holds Tryz.pinned (OpenSpec.upto pruneRungsSpec)

/-- 'capstanlaw19.PruneKeeps', WHERE WHAT IT READS IS OF BULK AT MOST 1048576: true; the input reads as it did. -/
def pruneKeepsUptoRow : OpenClaim := { program := "ytbgomckkockemaagreatdoor", sum := "76188b60a8ed1a05dece19a9ec528d44a508d3a1dc1bf592e7704478deebb8f5", func := "capstan/capstanlaw19.PruneKeeps", spec := "pruneKeeps", inPlace := ["math/bits.Sub64", "math/bits.Add64", "internal/reflectlite.ValueOf", "(internal/reflectlite.Value).Type", "(internal/reflectlite.Value).IsNil", "internal/reflectlite.TypeOf", "(internal/reflectlite.Value).Elem", "(internal/reflectlite.Value).Set"], unfollowed := true, recurses := true, named := ["capstan/cron.fields", "math/bits.divideError", "math/bits.overflowError", "errors.errorType"], loops := true, apart := false, laid := [("errors.errorType", laid_errors_errorType), ("capstan/cron.fields", laid_capstan_cron_fields)], narrowed := true }
def PruneKeepsUptoSaid : Prop := pruneKeepsUptoRow.holds Tryz.pinned (OpenSpec.upto pruneKeepsSpec)

end Rows
end Go.Proofs.YtbgomckkockemaaGreatDoor

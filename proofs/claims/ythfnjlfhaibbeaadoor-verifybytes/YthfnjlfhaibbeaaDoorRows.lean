/-
  NARROWER THAN 'FOR EVERY INPUT', by the rows' own cells (each row's printed sentence says how): CodecDecodes: laid · VerifyChecks: laid · VerifyBytes: laid · VerifyDown: laid · VerifyKeeps: laid.
  DERIVED. THE GIVEN ROWS OF THIS SEAT. 5 by the template 'for every input the law returns true; each argument reads behind the call as it read before'; 0 by the template 'total and deterministic' (their statements: YthfnjlfhaibbeaaDoorTotals.lean).
  GIVEN WITH THE SEED: the statements are not yours to turn. If you find one false, say at which input.
  Laid BY PROGRAM, IN A SANDBOX (cutbox-rows.mjs): the forced cells as the released guide's own fill.sh prints them over the translation cfcd23b3eb586de1… (all of the seat's roots in one cut). By AI agents, Wed Nov 11 2026. No macro, syntax, notation, axiom, sorry.
-/
import Derived.Test.YthfnjlfhaibbeaaDoorChecked
import GoSem.Claim
import GoSem.ClaimJoined
import GoSem.ClaimMapViews
import Derived.JoinedTies
import Derived.KernelRfl
namespace Go.Proofs.YthfnjlfhaibbeaaDoor
/- THE CELL 'sum', in the pinned program and in every row, IS THE sha256 OF THE DUMP (.gsa) THAT YthfnjlfhaibbeaaDoorProg.lean LOADS. Nothing in Lean hashes anything: it is a label: what it is worth is what the hold of that sum in a sandbox is worth. -/
noncomputable def Tryd.pinned : Pinned := { name := "ythfnjlfhaibbeaadoor", sum := "cfcd23b3eb586de1d3c46e18de7b095f54b521f29d2cc5828bf852809fadb9d9", checked := Tryd.checked }
namespace Rows
def none {H : Type} : Left H := { results := [], args := [] }

/- WHAT THE LISTED PACKAGE-LEVEL VARIABLES READ AS WHEN THE CALL BEGINS. Each datum BY PROGRAM (the guide's laid-datum.mjs) off the statement by which the dump's own 'gosem.cut.vars' lays the variable. In a bare row this is a premise. The card (YthfnjlfhaibbeaaDoorCards.lean) ties it to the program's text. -/
def laid_capstan_codec_errCode {H : Type} : DataW H := .iface "*errors.errorString" (.ptr (.agg [.lit (.string [116, 104, 101, 115, 101, 32, 97, 114, 101, 32, 116, 104, 101, 32, 98, 121, 116, 101, 115, 32, 111, 102, 32, 110, 111, 32, 112, 114, 111, 103, 114, 97, 109])]))
def laid_capstan_cron_fields {H : Type} : DataW H := .agg [.agg [.lit (.int .i64 0), .lit (.int .i64 59)], .agg [.lit (.int .i64 0), .lit (.int .i64 23)], .agg [.lit (.int .i64 1), .lit (.int .i64 31)], .agg [.lit (.int .i64 1), .lit (.int .i64 12)], .agg [.lit (.int .i64 0), .lit (.int .i64 6)]]
def laid_capstan_verify_table {H : Type} : DataW H := .agg [.agg [.lit (.int .i64 1), .lit (.int .i64 1), .lit (.int .i64 1), .agg [.lit (.int .i64 0), .lit (.int .i64 0)], .lit (.int .i64 0), .agg [.lit (.int .i64 1), .lit (.int .i64 0)], .agg [.lit (.int .i64 0), .lit (.int .i64 0)]], .agg [.lit (.int .i64 2), .lit (.int .i64 2), .lit (.int .i64 0), .agg [.lit (.int .i64 0), .lit (.int .i64 0)], .lit (.int .i64 0), .agg [.lit (.int .i64 1), .lit (.int .i64 0)], .agg [.lit (.int .i64 0), .lit (.int .i64 0)]], .agg [.lit (.int .i64 3), .lit (.int .i64 3), .lit (.int .i64 3), .agg [.lit (.int .i64 0), .lit (.int .i64 0)], .lit (.int .i64 0), .agg [.lit (.int .i64 1), .lit (.int .i64 0)], .agg [.lit (.int .i64 0), .lit (.int .i64 0)]], .agg [.lit (.int .i64 4), .lit (.int .i64 4), .lit (.int .i64 4), .agg [.lit (.int .i64 0), .lit (.int .i64 0)], .lit (.int .i64 0), .agg [.lit (.int .i64 1), .lit (.int .i64 0)], .agg [.lit (.int .i64 0), .lit (.int .i64 0)]], .agg [.lit (.int .i64 5), .lit (.int .i64 5), .lit (.int .i64 5), .agg [.lit (.int .i64 0), .lit (.int .i64 0)], .lit (.int .i64 0), .agg [.lit (.int .i64 1), .lit (.int .i64 0)], .agg [.lit (.int .i64 0), .lit (.int .i64 0)]], .agg [.lit (.int .i64 6), .lit (.int .i64 10), .lit (.int .i64 0), .agg [.lit (.int .i64 1), .lit (.int .i64 0)], .lit (.int .i64 0), .agg [.lit (.int .i64 0), .lit (.int .i64 0)], .agg [.lit (.int .i64 0), .lit (.int .i64 0)]], .agg [.lit (.int .i64 11), .lit (.int .i64 11), .lit (.int .i64 2), .agg [.lit (.int .i64 1), .lit (.int .i64 0)], .lit (.int .i64 0), .agg [.lit (.int .i64 0), .lit (.int .i64 0)], .agg [.lit (.int .i64 0), .lit (.int .i64 0)]], .agg [.lit (.int .i64 12), .lit (.int .i64 22), .lit (.int .i64 0), .agg [.lit (.int .i64 2), .lit (.int .i64 0)], .lit (.int .i64 0), .agg [.lit (.int .i64 (-1)), .lit (.int .i64 0)], .agg [.lit (.int .i64 0), .lit (.int .i64 0)]], .agg [.lit (.int .i64 23), .lit (.int .i64 23), .lit (.int .i64 6), .agg [.lit (.int .i64 0), .lit (.int .i64 0)], .lit (.int .i64 1), .agg [.lit (.int .i64 0), .lit (.int .i64 0)], .agg [.lit (.int .i64 0), .lit (.int .i64 0)]], .agg [.lit (.int .i64 24), .lit (.int .i64 24), .lit (.int .i64 6), .agg [.lit (.int .i64 1), .lit (.int .i64 0)], .lit (.int .i64 2), .agg [.lit (.int .i64 (-1)), .lit (.int .i64 0)], .agg [.lit (.int .i64 (-1)), .lit (.int .i64 0)]], .agg [.lit (.int .i64 25), .lit (.int .i64 25), .lit (.int .i64 6), .agg [.lit (.int .i64 0), .lit (.int .i64 0)], .lit (.int .i64 2), .agg [.lit (.int .i64 0), .lit (.int .i64 1)], .agg [.lit (.int .i64 0), .lit (.int .i64 0)]], .agg [.lit (.int .i64 26), .lit (.int .i64 26), .lit (.int .i64 6), .agg [.lit (.int .i64 0), .lit (.int .i64 1)], .lit (.int .i64 1), .agg [.lit (.int .i64 0), .lit (.int .i64 0)], .agg [.lit (.int .i64 0), .lit (.int .i64 (-1))]], .agg [.lit (.int .i64 27), .lit (.int .i64 27), .lit (.int .i64 8), .agg [.lit (.int .i64 0), .lit (.int .i64 0)], .lit (.int .i64 2), .agg [.lit (.int .i64 0), .lit (.int .i64 0)], .agg [.lit (.int .i64 1), .lit (.int .i64 0)]], .agg [.lit (.int .i64 28), .lit (.int .i64 28), .lit (.int .i64 7), .agg [.lit (.int .i64 1), .lit (.int .i64 0)], .lit (.int .i64 0), .agg [.lit (.int .i64 0), .lit (.int .i64 0)], .agg [.lit (.int .i64 0), .lit (.int .i64 0)]], .agg [.lit (.int .i64 29), .lit (.int .i64 29), .lit (.int .i64 0), .agg [.lit (.int .i64 0), .lit (.int .i64 0)], .lit (.int .i64 3), .agg [.lit (.int .i64 0), .lit (.int .i64 0)], .agg [.lit (.int .i64 0), .lit (.int .i64 0)]], .agg [.lit (.int .i64 30), .lit (.int .i64 31), .lit (.int .i64 0), .agg [.lit (.int .i64 1), .lit (.int .i64 0)], .lit (.int .i64 3), .agg [.lit (.int .i64 0), .lit (.int .i64 0)], .agg [.lit (.int .i64 0), .lit (.int .i64 0)]], .agg [.lit (.int .i64 32), .lit (.int .i64 32), .lit (.int .i64 0), .agg [.lit (.int .i64 1), .lit (.int .i64 0)], .lit (.int .i64 0), .agg [.lit (.int .i64 1), .lit (.int .i64 0)], .agg [.lit (.int .i64 0), .lit (.int .i64 0)]], .agg [.lit (.int .i64 33), .lit (.int .i64 33), .lit (.int .i64 0), .agg [.lit (.int .i64 1), .lit (.int .i64 0)], .lit (.int .i64 0), .agg [.lit (.int .i64 (-1)), .lit (.int .i64 0)], .agg [.lit (.int .i64 0), .lit (.int .i64 0)]]]

/-- 'capstanlaw22.CodecDecodes': WHATEVER THE INPUT: true; the input reads as it did. -/
def codecDecodesSpec : ChangeSpec := { name := "codecDecodes", fn := fun _ => fun
  | [d] => { results := [.lit (.bool true)], args := [d] }
  | _ => none }
def codecDecodesRow : OpenClaim := { program := "ythfnjlfhaibbeaadoor", sum := "cfcd23b3eb586de1d3c46e18de7b095f54b521f29d2cc5828bf852809fadb9d9", func := "capstan/capstanlaw22.CodecDecodes", spec := "codecDecodes", unfollowed := true, recurses := true, named := ["capstan/codec.errCode"], apart := false, laid := [("capstan/codec.errCode", laid_capstan_codec_errCode)] }
def CodecDecodesSaid : Prop := codecDecodesRow.holds Tryd.pinned (OpenSpec.ofChange codecDecodesSpec)

/-- ITS FALSE NEIGHBOUR: 'it returns false'. Refute it at one input. -/
def codecDecodesWrong : ChangeSpec := { name := "codecDecodes", fn := fun _ => fun
  | [d] => { results := [.lit (.bool false)], args := [d] }
  | _ => none }
def CodecDecodesWrongFalsely : Prop := codecDecodesRow.holds Tryd.pinned (OpenSpec.ofChange codecDecodesWrong)

/-- 'capstanlaw23.VerifyChecks': WHATEVER THE INPUT: true; the input reads as it did. -/
def verifyChecksSpec : ChangeSpec := { name := "verifyChecks", fn := fun _ => fun
  | [d] => { results := [.lit (.bool true)], args := [d] }
  | _ => none }
def verifyChecksRow : OpenClaim := { program := "ythfnjlfhaibbeaadoor", sum := "cfcd23b3eb586de1d3c46e18de7b095f54b521f29d2cc5828bf852809fadb9d9", func := "capstan/capstanlaw23.VerifyChecks", spec := "verifyChecks", named := ["capstan/cron.fields", "capstan/verify.table"], apart := false, laid := [("capstan/cron.fields", laid_capstan_cron_fields), ("capstan/verify.table", laid_capstan_verify_table)] }
def VerifyChecksSaid : Prop := verifyChecksRow.holds Tryd.pinned (OpenSpec.ofChange verifyChecksSpec)

/-- ITS FALSE NEIGHBOUR: 'it returns false'. Refute it at one input. -/
def verifyChecksWrong : ChangeSpec := { name := "verifyChecks", fn := fun _ => fun
  | [d] => { results := [.lit (.bool false)], args := [d] }
  | _ => none }
def VerifyChecksWrongFalsely : Prop := verifyChecksRow.holds Tryd.pinned (OpenSpec.ofChange verifyChecksWrong)

/-- 'capstanlaw23.VerifyBytes': WHATEVER THE INPUT: true; the input reads as it did. -/
def verifyBytesSpec : ChangeSpec := { name := "verifyBytes", fn := fun _ => fun
  | [d] => { results := [.lit (.bool true)], args := [d] }
  | _ => none }
def verifyBytesRow : OpenClaim := { program := "ythfnjlfhaibbeaadoor", sum := "cfcd23b3eb586de1d3c46e18de7b095f54b521f29d2cc5828bf852809fadb9d9", func := "capstan/capstanlaw23.VerifyBytes", spec := "verifyBytes", named := ["capstan/cron.fields", "capstan/verify.table"], apart := false, laid := [("capstan/cron.fields", laid_capstan_cron_fields), ("capstan/verify.table", laid_capstan_verify_table)] }
def VerifyBytesSaid : Prop := verifyBytesRow.holds Tryd.pinned (OpenSpec.ofChange verifyBytesSpec)

/-- ITS FALSE NEIGHBOUR: 'it returns false'. Refute it at one input. -/
def verifyBytesWrong : ChangeSpec := { name := "verifyBytes", fn := fun _ => fun
  | [d] => { results := [.lit (.bool false)], args := [d] }
  | _ => none }
def VerifyBytesWrongFalsely : Prop := verifyBytesRow.holds Tryd.pinned (OpenSpec.ofChange verifyBytesWrong)

/-- 'capstanlaw23.VerifyDown': WHATEVER THE INPUT: true; the input reads as it did. -/
def verifyDownSpec : ChangeSpec := { name := "verifyDown", fn := fun _ => fun
  | [d] => { results := [.lit (.bool true)], args := [d] }
  | _ => none }
def verifyDownRow : OpenClaim := { program := "ythfnjlfhaibbeaadoor", sum := "cfcd23b3eb586de1d3c46e18de7b095f54b521f29d2cc5828bf852809fadb9d9", func := "capstan/capstanlaw23.VerifyDown", spec := "verifyDown", named := ["capstan/cron.fields", "capstan/verify.table"], apart := false, laid := [("capstan/cron.fields", laid_capstan_cron_fields), ("capstan/verify.table", laid_capstan_verify_table)] }
def VerifyDownSaid : Prop := verifyDownRow.holds Tryd.pinned (OpenSpec.ofChange verifyDownSpec)

/-- ITS FALSE NEIGHBOUR: 'it returns false'. Refute it at one input. -/
def verifyDownWrong : ChangeSpec := { name := "verifyDown", fn := fun _ => fun
  | [d] => { results := [.lit (.bool false)], args := [d] }
  | _ => none }
def VerifyDownWrongFalsely : Prop := verifyDownRow.holds Tryd.pinned (OpenSpec.ofChange verifyDownWrong)

/-- 'capstanlaw23.VerifyKeeps': WHATEVER THE INPUT: true; the input reads as it did. -/
def verifyKeepsSpec : ChangeSpec := { name := "verifyKeeps", fn := fun _ => fun
  | [d] => { results := [.lit (.bool true)], args := [d] }
  | _ => none }
def verifyKeepsRow : OpenClaim := { program := "ythfnjlfhaibbeaadoor", sum := "cfcd23b3eb586de1d3c46e18de7b095f54b521f29d2cc5828bf852809fadb9d9", func := "capstan/capstanlaw23.VerifyKeeps", spec := "verifyKeeps", named := ["capstan/cron.fields", "capstan/verify.table"], apart := false, laid := [("capstan/cron.fields", laid_capstan_cron_fields), ("capstan/verify.table", laid_capstan_verify_table)] }
def VerifyKeepsSaid : Prop := verifyKeepsRow.holds Tryd.pinned (OpenSpec.ofChange verifyKeepsSpec)

/-- ITS FALSE NEIGHBOUR: 'it returns false'. Refute it at one input. -/
def verifyKeepsWrong : ChangeSpec := { name := "verifyKeeps", fn := fun _ => fun
  | [d] => { results := [.lit (.bool false)], args := [d] }
  | _ => none }
def VerifyKeepsWrongFalsely : Prop := verifyKeepsRow.holds Tryd.pinned (OpenSpec.ofChange verifyKeepsWrong)

/- THE SECOND FORM. 'bulk': how many values and letters a reading holds, each counted each time it is reached (what is shared counts as often as it is met; a slice's spare places count too). A statement '..UptoSaid' is the law's where the arguments, and the package variables that the reading takes, are together of bulk at most 1048576: NARROWER than '..Said'. Prove '..Said' where nothing that the law and all that it calls make is longer than what came in: it says more and counts as full. Else prove '..UptoSaid'. A law counts once. -/
mutual
def uptoBulk {H : Type} : DataW H → Nat
  | .lit (.string bytes) => bytes.length + 1
  | .lit _ => 1
  | .nil => 1
  | .ptr d => uptoBulk d + 1
  | .slice elems spare => uptoBulkAll elems + uptoBulkAll spare + 1
  | .agg parts => uptoBulkAll parts + 1
  | .iface _ d => uptoBulk d + 1
  | .map entries => uptoBulkEntries entries + 1
  | .held _ => 1
def uptoBulkAll {H : Type} : List (DataW H) → Nat
  | [] => 0
  | d :: r => uptoBulk d + uptoBulkAll r
def uptoBulkEntries {H : Type} : List (Lit × DataW H) → Nat
  | [] => 0
  | x :: r => uptoBulkEntry x + uptoBulkEntries r
def uptoBulkEntry {H : Type} : Lit × DataW H → Nat
  | (.string bytes, d) => bytes.length + uptoBulk d + 1
  | (_, d) => uptoBulk d + 1
 end
def uptoSmall : (H : Type) → List (DataW H) → Bool := fun _ ds => decide (uptoBulkAll ds ≤ 1048576)
def OpenSpec.upto (s : _root_.Go.ChangeSpec) : _root_.Go.OpenSpec := { _root_.Go.OpenSpec.ofChange s with cond := some uptoSmall }

/-- 'capstanlaw22.CodecDecodes', WHERE WHAT IT READS IS OF BULK AT MOST 1048576: true; the input reads as it did. -/
def codecDecodesUptoRow : OpenClaim := { program := "ythfnjlfhaibbeaadoor", sum := "cfcd23b3eb586de1d3c46e18de7b095f54b521f29d2cc5828bf852809fadb9d9", func := "capstan/capstanlaw22.CodecDecodes", spec := "codecDecodes", unfollowed := true, recurses := true, named := ["capstan/codec.errCode"], apart := false, laid := [("capstan/codec.errCode", laid_capstan_codec_errCode)], narrowed := true }
def CodecDecodesUptoSaid : Prop := codecDecodesUptoRow.holds Tryd.pinned (OpenSpec.upto codecDecodesSpec)

/-- 'capstanlaw23.VerifyChecks', WHERE WHAT IT READS IS OF BULK AT MOST 1048576: true; the input reads as it did. -/
def verifyChecksUptoRow : OpenClaim := { program := "ythfnjlfhaibbeaadoor", sum := "cfcd23b3eb586de1d3c46e18de7b095f54b521f29d2cc5828bf852809fadb9d9", func := "capstan/capstanlaw23.VerifyChecks", spec := "verifyChecks", named := ["capstan/cron.fields", "capstan/verify.table"], apart := false, laid := [("capstan/cron.fields", laid_capstan_cron_fields), ("capstan/verify.table", laid_capstan_verify_table)], narrowed := true }
def VerifyChecksUptoSaid : Prop := verifyChecksUptoRow.holds Tryd.pinned (OpenSpec.upto verifyChecksSpec)

/-- 'capstanlaw23.VerifyBytes', WHERE WHAT IT READS IS OF BULK AT MOST 1048576: true; the input reads as it did. -/
def verifyBytesUptoRow : OpenClaim := { program := "ythfnjlfhaibbeaadoor", sum := "cfcd23b3eb586de1d3c46e18de7b095f54b521f29d2cc5828bf852809fadb9d9", func := "capstan/capstanlaw23.VerifyBytes", spec := "verifyBytes", named := ["capstan/cron.fields", "capstan/verify.table"], apart := false, laid := [("capstan/cron.fields", laid_capstan_cron_fields), ("capstan/verify.table", laid_capstan_verify_table)], narrowed := true }
def VerifyBytesUptoSaid : Prop := verifyBytesUptoRow.holds Tryd.pinned (OpenSpec.upto verifyBytesSpec)

/-- 'capstanlaw23.VerifyDown', WHERE WHAT IT READS IS OF BULK AT MOST 1048576: true; the input reads as it did. -/
def verifyDownUptoRow : OpenClaim := { program := "ythfnjlfhaibbeaadoor", sum := "cfcd23b3eb586de1d3c46e18de7b095f54b521f29d2cc5828bf852809fadb9d9", func := "capstan/capstanlaw23.VerifyDown", spec := "verifyDown", named := ["capstan/cron.fields", "capstan/verify.table"], apart := false, laid := [("capstan/cron.fields", laid_capstan_cron_fields), ("capstan/verify.table", laid_capstan_verify_table)], narrowed := true }
def VerifyDownUptoSaid : Prop := verifyDownUptoRow.holds Tryd.pinned (OpenSpec.upto verifyDownSpec)

/-- 'capstanlaw23.VerifyKeeps', WHERE WHAT IT READS IS OF BULK AT MOST 1048576: true; the input reads as it did. -/
def verifyKeepsUptoRow : OpenClaim := { program := "ythfnjlfhaibbeaadoor", sum := "cfcd23b3eb586de1d3c46e18de7b095f54b521f29d2cc5828bf852809fadb9d9", func := "capstan/capstanlaw23.VerifyKeeps", spec := "verifyKeeps", named := ["capstan/cron.fields", "capstan/verify.table"], apart := false, laid := [("capstan/cron.fields", laid_capstan_cron_fields), ("capstan/verify.table", laid_capstan_verify_table)], narrowed := true }
def VerifyKeepsUptoSaid : Prop := verifyKeepsUptoRow.holds Tryd.pinned (OpenSpec.upto verifyKeepsSpec)

end Rows
end Go.Proofs.YthfnjlfhaibbeaaDoor

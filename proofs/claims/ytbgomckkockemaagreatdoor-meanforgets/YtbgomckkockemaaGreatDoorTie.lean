/-
  DERIVED. GIVEN WITH THE SEED: THE PROGRAM's TIES (one call each: nine closed facts by the kernel) AND EACH ROW's TIE, after the 31st guide's Derived/Test/Toyas{Tie, Card}.lean. No idea stands in it: it is a product of the set-up. Laid BY PROGRAM, IN A SANDBOX (cutbox-door.mjs). By AI agents, Wed Nov 11 2026. No macro, syntax, notation, axiom, sorry.
-/
import Derived.Test.YtbgomckkockemaaGreatDoorRows
import Derived.LaidByTextLater
import Derived.SevenTiedAt
import Derived.LaidSub
import Derived.LaidOnce
namespace Go.Proofs.YtbgomckkockemaaGreatDoor
open Go
set_option maxRecDepth 100000
theorem seatTie1 : Tryz.prog.laidByTextLater [("capstan/civil.lengths", Rows.laid_capstan_civil_lengths), ("errors.errorType", Rows.laid_errors_errorType), ("capstan/cron.fields", Rows.laid_capstan_cron_fields)] [.data, .handle, .data] true :=
  Program.laidByTextLater_by_one 31 8 13 (by kernel_rfl) (by kernel_rfl) (by kernel_rfl) (by kernel_rfl) (by kernel_rfl) (by kernel_rfl) (fun _ _ => by kernel_rfl)
theorem noOwnUnsafe : Tryz.pinned.checked.prog.headLifts.contains "ownunsafe" = false := by kernel_rfl
theorem tie : Tryz.prog.laidByTextLater [("capstan/civil.lengths", Rows.laid_capstan_civil_lengths), ("errors.errorType", Rows.laid_errors_errorType), ("capstan/cron.fields", Rows.laid_capstan_cron_fields)] [.data, .handle, .data] true :=
  Program.laidByTextLater.sub seatTie1 ["capstan/civil.lengths", "errors.errorType", "capstan/cron.fields"] (by kernel_rfl) (by kernel_rfl)
theorem meanSees_row_tie : Rows.meanSeesRow.laidByTextAt .later Tryz.pinned [.data, .handle, .data] true :=
  OpenClaim.laidByTextAt_later rfl rfl tie noOwnUnsafe
theorem meanDecides_row_tie : Rows.meanDecidesRow.laidByTextAt .later Tryz.pinned [.data, .handle, .data] true :=
  OpenClaim.laidByTextAt_later rfl rfl tie noOwnUnsafe
theorem meanForgets_row_tie : Rows.meanForgetsRow.laidByTextAt .later Tryz.pinned [.data, .handle, .data] true :=
  OpenClaim.laidByTextAt_later rfl rfl tie noOwnUnsafe
theorem tie2 : Tryz.prog.laidByTextLater [("errors.errorType", Rows.laid_errors_errorType), ("capstan/cron.fields", Rows.laid_capstan_cron_fields)] [.handle, .data] true :=
  Program.laidByTextLater.sub seatTie1 ["errors.errorType", "capstan/cron.fields"] (by kernel_rfl) (by kernel_rfl)
theorem foldPlans_row_tie : Rows.foldPlansRow.laidByTextAt .later Tryz.pinned [.handle, .data] true :=
  OpenClaim.laidByTextAt_later rfl rfl tie2 noOwnUnsafe
theorem foldMeans_row_tie : Rows.foldMeansRow.laidByTextAt .later Tryz.pinned [.handle, .data] true :=
  OpenClaim.laidByTextAt_later rfl rfl tie2 noOwnUnsafe
theorem prunePlans_row_tie : Rows.prunePlansRow.laidByTextAt .later Tryz.pinned [.handle, .data] true :=
  OpenClaim.laidByTextAt_later rfl rfl tie2 noOwnUnsafe
theorem pruneMeans_row_tie : Rows.pruneMeansRow.laidByTextAt .later Tryz.pinned [.handle, .data] true :=
  OpenClaim.laidByTextAt_later rfl rfl tie2 noOwnUnsafe
theorem pruneLeast_row_tie : Rows.pruneLeastRow.laidByTextAt .later Tryz.pinned [.handle, .data] true :=
  OpenClaim.laidByTextAt_later rfl rfl tie2 noOwnUnsafe
theorem pruneRungs_row_tie : Rows.pruneRungsRow.laidByTextAt .later Tryz.pinned [.handle, .data] true :=
  OpenClaim.laidByTextAt_later rfl rfl tie2 noOwnUnsafe
theorem pruneKeeps_row_tie : Rows.pruneKeepsRow.laidByTextAt .later Tryz.pinned [.handle, .data] true :=
  OpenClaim.laidByTextAt_later rfl rfl tie2 noOwnUnsafe
theorem meanSeesUpto_row_tie : Rows.meanSeesUptoRow.laidByTextAt .later Tryz.pinned [.data, .handle, .data] true :=
  OpenClaim.laidByTextAt_later rfl rfl tie noOwnUnsafe
theorem meanDecidesUpto_row_tie : Rows.meanDecidesUptoRow.laidByTextAt .later Tryz.pinned [.data, .handle, .data] true :=
  OpenClaim.laidByTextAt_later rfl rfl tie noOwnUnsafe
theorem meanForgetsUpto_row_tie : Rows.meanForgetsUptoRow.laidByTextAt .later Tryz.pinned [.data, .handle, .data] true :=
  OpenClaim.laidByTextAt_later rfl rfl tie noOwnUnsafe
theorem foldPlansUpto_row_tie : Rows.foldPlansUptoRow.laidByTextAt .later Tryz.pinned [.handle, .data] true :=
  OpenClaim.laidByTextAt_later rfl rfl tie2 noOwnUnsafe
theorem foldMeansUpto_row_tie : Rows.foldMeansUptoRow.laidByTextAt .later Tryz.pinned [.handle, .data] true :=
  OpenClaim.laidByTextAt_later rfl rfl tie2 noOwnUnsafe
theorem prunePlansUpto_row_tie : Rows.prunePlansUptoRow.laidByTextAt .later Tryz.pinned [.handle, .data] true :=
  OpenClaim.laidByTextAt_later rfl rfl tie2 noOwnUnsafe
theorem pruneMeansUpto_row_tie : Rows.pruneMeansUptoRow.laidByTextAt .later Tryz.pinned [.handle, .data] true :=
  OpenClaim.laidByTextAt_later rfl rfl tie2 noOwnUnsafe
theorem pruneLeastUpto_row_tie : Rows.pruneLeastUptoRow.laidByTextAt .later Tryz.pinned [.handle, .data] true :=
  OpenClaim.laidByTextAt_later rfl rfl tie2 noOwnUnsafe
theorem pruneRungsUpto_row_tie : Rows.pruneRungsUptoRow.laidByTextAt .later Tryz.pinned [.handle, .data] true :=
  OpenClaim.laidByTextAt_later rfl rfl tie2 noOwnUnsafe
theorem pruneKeepsUpto_row_tie : Rows.pruneKeepsUptoRow.laidByTextAt .later Tryz.pinned [.handle, .data] true :=
  OpenClaim.laidByTextAt_later rfl rfl tie2 noOwnUnsafe
end Go.Proofs.YtbgomckkockemaaGreatDoor

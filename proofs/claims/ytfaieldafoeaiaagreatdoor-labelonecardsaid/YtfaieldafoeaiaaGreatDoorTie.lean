/-
  DERIVED. GIVEN WITH THE SEED: THE PROGRAM's TIES (one call each: nine closed facts by the kernel) AND EACH ROW's TIE, after the 31st guide's Derived/Test/Toyas{Tie, Card}.lean. No idea stands in it: it is a product of the set-up. Laid BY PROGRAM, IN A SANDBOX (cutbox-door.mjs). By AI agents, Wed Nov 11 2026. No macro, syntax, notation, axiom, sorry.
-/
import Derived.Test.YtfaieldafoeaiaaGreatDoorRows
import Derived.LaidByTextLater
import Derived.SevenTiedAt
import Derived.LaidSub
import Derived.LaidOnce
namespace Go.Proofs.YtfaieldafoeaiaaGreatDoor
open Go
set_option maxRecDepth 100000
theorem seatTie1 : Tryz.prog.laidByTextLater [("errors.errorType", Rows.laid_errors_errorType), ("gatepost/fold.spans", Rows.laid_gatepost_fold_spans), ("gatepost/fold.letters", Rows.laid_gatepost_fold_letters), ("gatepost/fold.marks", Rows.laid_gatepost_fold_marks), ("gatepost/fold.made", Rows.laid_gatepost_fold_made)] [.handle, .data, .data, .data, .data] true :=
  Program.laidByTextLater_by_one 72 8 113 (by kernel_rfl) (by kernel_rfl) (by kernel_rfl) (by kernel_rfl) (by kernel_rfl) (by kernel_rfl) (fun _ _ => by kernel_rfl)
theorem noOwnUnsafe : Tryz.pinned.checked.prog.headLifts.contains "ownunsafe" = false := by kernel_rfl
theorem tie : Tryz.prog.laidByTextLater [("errors.errorType", Rows.laid_errors_errorType), ("gatepost/fold.spans", Rows.laid_gatepost_fold_spans), ("gatepost/fold.letters", Rows.laid_gatepost_fold_letters), ("gatepost/fold.marks", Rows.laid_gatepost_fold_marks), ("gatepost/fold.made", Rows.laid_gatepost_fold_made)] [.handle, .data, .data, .data, .data] true :=
  Program.laidByTextLater.sub seatTie1 ["errors.errorType", "gatepost/fold.spans", "gatepost/fold.letters", "gatepost/fold.marks", "gatepost/fold.made"] (by kernel_rfl) (by kernel_rfl)
theorem labelOne_row_tie : Rows.labelOneRow.laidByTextAt .later Tryz.pinned [.handle, .data, .data, .data, .data] true :=
  OpenClaim.laidByTextAt_later rfl rfl tie noOwnUnsafe
theorem labelAll_row_tie : Rows.labelAllRow.laidByTextAt .later Tryz.pinned [.handle, .data, .data, .data, .data] true :=
  OpenClaim.laidByTextAt_later rfl rfl tie noOwnUnsafe
theorem labelFolds_row_tie : Rows.labelFoldsRow.laidByTextAt .later Tryz.pinned [.handle, .data, .data, .data, .data] true :=
  OpenClaim.laidByTextAt_later rfl rfl tie noOwnUnsafe
theorem labelOneUpto_row_tie : Rows.labelOneUptoRow.laidByTextAt .later Tryz.pinned [.handle, .data, .data, .data, .data] true :=
  OpenClaim.laidByTextAt_later rfl rfl tie noOwnUnsafe
theorem labelAllUpto_row_tie : Rows.labelAllUptoRow.laidByTextAt .later Tryz.pinned [.handle, .data, .data, .data, .data] true :=
  OpenClaim.laidByTextAt_later rfl rfl tie noOwnUnsafe
theorem labelFoldsUpto_row_tie : Rows.labelFoldsUptoRow.laidByTextAt .later Tryz.pinned [.handle, .data, .data, .data, .data] true :=
  OpenClaim.laidByTextAt_later rfl rfl tie noOwnUnsafe
end Go.Proofs.YtfaieldafoeaiaaGreatDoor

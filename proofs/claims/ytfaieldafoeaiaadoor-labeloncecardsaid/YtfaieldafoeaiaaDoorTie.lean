/-
  DERIVED. GIVEN WITH THE SEED: THE PROGRAM's TIES (one call each: nine closed facts by the kernel) AND EACH ROW's TIE, after the 31st guide's Derived/Test/Toyas{Tie, Card}.lean. No idea stands in it: it is a product of the set-up. Laid BY PROGRAM, IN A SANDBOX (cutbox-door.mjs). By AI agents, Wed Nov 11 2026. No macro, syntax, notation, axiom, sorry.
-/
import Derived.Test.YtfaieldafoeaiaaDoorRows
import Derived.LaidByTextLater
import Derived.SevenTiedAt
import Derived.LaidSub
import Derived.LaidOnce
namespace Go.Proofs.YtfaieldafoeaiaaDoor
open Go
set_option maxRecDepth 100000
theorem seatTie1 : Tryd.prog.laidByTextLater [("errors.errorType", Rows.laid_errors_errorType), ("gatepost/fold.spans", Rows.laid_gatepost_fold_spans), ("gatepost/fold.letters", Rows.laid_gatepost_fold_letters), ("gatepost/fold.marks", Rows.laid_gatepost_fold_marks), ("gatepost/fold.made", Rows.laid_gatepost_fold_made)] [.handle, .data, .data, .data, .data] true :=
  Program.laidByTextLater_by_one 72 8 113 (by kernel_rfl) (by kernel_rfl) (by kernel_rfl) (by kernel_rfl) (by kernel_rfl) (by kernel_rfl) (fun _ _ => by kernel_rfl)
theorem noOwnUnsafe : Tryd.pinned.checked.prog.headLifts.contains "ownunsafe" = false := by kernel_rfl
theorem tie : Tryd.prog.laidByTextLater [("gatepost/fold.spans", Rows.laid_gatepost_fold_spans), ("gatepost/fold.letters", Rows.laid_gatepost_fold_letters), ("gatepost/fold.marks", Rows.laid_gatepost_fold_marks), ("gatepost/fold.made", Rows.laid_gatepost_fold_made)] [.data, .data, .data, .data] true :=
  Program.laidByTextLater.sub seatTie1 ["gatepost/fold.spans", "gatepost/fold.letters", "gatepost/fold.marks", "gatepost/fold.made"] (by kernel_rfl) (by kernel_rfl)
theorem labelOnce_row_tie : Rows.labelOnceRow.laidByTextAt .later Tryd.pinned [.data, .data, .data, .data] true :=
  OpenClaim.laidByTextAt_later rfl rfl tie noOwnUnsafe
theorem tie2 : Tryd.prog.laidByTextLater [("errors.errorType", Rows.laid_errors_errorType), ("gatepost/fold.spans", Rows.laid_gatepost_fold_spans), ("gatepost/fold.letters", Rows.laid_gatepost_fold_letters), ("gatepost/fold.marks", Rows.laid_gatepost_fold_marks), ("gatepost/fold.made", Rows.laid_gatepost_fold_made)] [.handle, .data, .data, .data, .data] true :=
  Program.laidByTextLater.sub seatTie1 ["errors.errorType", "gatepost/fold.spans", "gatepost/fold.letters", "gatepost/fold.marks", "gatepost/fold.made"] (by kernel_rfl) (by kernel_rfl)
theorem labelParts_row_tie : Rows.labelPartsRow.laidByTextAt .later Tryd.pinned [.handle, .data, .data, .data, .data] true :=
  OpenClaim.laidByTextAt_later rfl rfl tie2 noOwnUnsafe
theorem labelOnceUpto_row_tie : Rows.labelOnceUptoRow.laidByTextAt .later Tryd.pinned [.data, .data, .data, .data] true :=
  OpenClaim.laidByTextAt_later rfl rfl tie noOwnUnsafe
theorem labelPartsUpto_row_tie : Rows.labelPartsUptoRow.laidByTextAt .later Tryd.pinned [.handle, .data, .data, .data, .data] true :=
  OpenClaim.laidByTextAt_later rfl rfl tie2 noOwnUnsafe
end Go.Proofs.YtfaieldafoeaiaaDoor

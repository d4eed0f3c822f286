/-
  NARROWER THAN 'FOR EVERY INPUT', by the rows' own cells (each row's printed sentence says how): LabelOne: laid · LabelAll: laid · LabelFolds: laid.
  DERIVED. THE GIVEN ROWS OF THIS SEAT. 3 by the template 'for every input the law returns true; each argument reads behind the call as it read before'; 0 by the template 'total and deterministic' (their statements: YtfaieldafoeaiaaGreatDoorTotals.lean).
  GIVEN WITH THE SEED: the statements are not yours to turn. If you find one false, say at which input.
  Laid BY PROGRAM, IN A SANDBOX (cutbox-rows.mjs): the forced cells as the released guide's own fill.sh prints them over the translation 97428d26489a515b… (all of the seat's roots in one cut). By AI agents, Wed Nov 11 2026. No macro, syntax, notation, axiom, sorry.
-/
import Derived.Test.YtfaieldafoeaiaaGreatDoorChecked
import GoSem.Claim
import GoSem.ClaimJoined
import GoSem.ClaimMapViews
import Derived.JoinedTies
import Derived.KernelRfl
namespace Go.Proofs.YtfaieldafoeaiaaGreatDoor
/- THE CELL 'sum', in the pinned program and in every row, IS THE sha256 OF THE DUMP (.gsa) THAT YtfaieldafoeaiaaGreatDoorProg.lean LOADS. Nothing in Lean hashes anything: it is a label: what it is worth is what the hold of that sum in a sandbox is worth. -/
noncomputable def Tryz.pinned : Pinned := { name := "ytfaieldafoeaiaagreatdoor", sum := "97428d26489a515b9748faf32a185b50fd6760f7a6a6e60c40a7c0132fe13e88", checked := Tryz.checked }
namespace Rows
def none {H : Type} : Left H := { results := [], args := [] }

/- WHAT THE LISTED PACKAGE-LEVEL VARIABLES READ AS WHEN THE CALL BEGINS. Each datum BY PROGRAM (the guide's laid-datum.mjs) off the statement by which the dump's own 'gosem.cut.vars' lays the variable. In a bare row this is a premise. The card (YtfaieldafoeaiaaGreatDoorCards.lean) ties it to the program's text. -/
def laid_errors_errorType {H : Type} : DataW H := .iface "internal/reflectlite.rtype" (.agg [.ptr (.lit (.string [101, 114, 114, 111, 114]))])
def laid_gatepost_fold_spans {H : Type} : DataW H := .agg [.agg [.lit (.int .i32 (-2147483648)), .lit (.int .i32 (-1)), .lit (.int .i64 1), .lit (.int .i32 0)], .agg [.lit (.int .i32 65), .lit (.int .i32 90), .lit (.int .i64 0), .lit (.int .i32 32)], .agg [.lit (.int .i32 128), .lit (.int .i32 160), .lit (.int .i64 1), .lit (.int .i32 0)], .agg [.lit (.int .i32 173), .lit (.int .i32 173), .lit (.int .i64 2), .lit (.int .i32 0)], .agg [.lit (.int .i32 192), .lit (.int .i32 214), .lit (.int .i64 0), .lit (.int .i32 32)], .agg [.lit (.int .i32 216), .lit (.int .i32 222), .lit (.int .i64 0), .lit (.int .i32 32)], .agg [.lit (.int .i32 913), .lit (.int .i32 929), .lit (.int .i64 0), .lit (.int .i32 32)], .agg [.lit (.int .i32 931), .lit (.int .i32 937), .lit (.int .i64 0), .lit (.int .i32 32)], .agg [.lit (.int .i32 1024), .lit (.int .i32 1039), .lit (.int .i64 0), .lit (.int .i32 80)], .agg [.lit (.int .i32 1040), .lit (.int .i32 1071), .lit (.int .i64 0), .lit (.int .i32 32)], .agg [.lit (.int .i32 5760), .lit (.int .i32 5760), .lit (.int .i64 1), .lit (.int .i32 0)], .agg [.lit (.int .i32 7838), .lit (.int .i32 7838), .lit (.int .i64 5), .lit (.int .i32 0)], .agg [.lit (.int .i32 8192), .lit (.int .i32 8202), .lit (.int .i64 1), .lit (.int .i32 0)], .agg [.lit (.int .i32 8203), .lit (.int .i32 8203), .lit (.int .i64 2), .lit (.int .i32 0)], .agg [.lit (.int .i32 8206), .lit (.int .i32 8207), .lit (.int .i64 1), .lit (.int .i32 0)], .agg [.lit (.int .i32 8232), .lit (.int .i32 8239), .lit (.int .i64 1), .lit (.int .i32 0)], .agg [.lit (.int .i32 8287), .lit (.int .i32 8287), .lit (.int .i64 1), .lit (.int .i32 0)], .agg [.lit (.int .i32 8288), .lit (.int .i32 8288), .lit (.int .i64 2), .lit (.int .i32 0)], .agg [.lit (.int .i32 8294), .lit (.int .i32 8297), .lit (.int .i64 1), .lit (.int .i32 0)], .agg [.lit (.int .i32 12290), .lit (.int .i32 12290), .lit (.int .i64 3), .lit (.int .i32 0)], .agg [.lit (.int .i32 55296), .lit (.int .i32 57343), .lit (.int .i64 1), .lit (.int .i32 0)], .agg [.lit (.int .i32 57344), .lit (.int .i32 63743), .lit (.int .i64 1), .lit (.int .i32 0)], .agg [.lit (.int .i32 64976), .lit (.int .i32 65007), .lit (.int .i64 1), .lit (.int .i32 0)], .agg [.lit (.int .i32 65279), .lit (.int .i32 65279), .lit (.int .i64 2), .lit (.int .i32 0)], .agg [.lit (.int .i32 65281), .lit (.int .i32 65374), .lit (.int .i64 4), .lit (.int .i32 0)], .agg [.lit (.int .i32 65377), .lit (.int .i32 65377), .lit (.int .i64 3), .lit (.int .i32 0)], .agg [.lit (.int .i32 65529), .lit (.int .i32 65535), .lit (.int .i64 1), .lit (.int .i32 0)], .agg [.lit (.int .i32 917504), .lit (.int .i32 2147483647), .lit (.int .i64 1), .lit (.int .i32 0)]]
def laid_gatepost_fold_letters {H : Type} : DataW H := .agg [.lit (.int .i32 97), .lit (.int .i32 99), .lit (.int .i32 101), .lit (.int .i32 105), .lit (.int .i32 110), .lit (.int .i32 111), .lit (.int .i32 117), .lit (.int .i32 121)]
def laid_gatepost_fold_marks {H : Type} : DataW H := .agg [.lit (.int .i32 768), .lit (.int .i32 769), .lit (.int .i32 770), .lit (.int .i32 771), .lit (.int .i32 776), .lit (.int .i32 778), .lit (.int .i32 807)]
def laid_gatepost_fold_made {H : Type} : DataW H := .agg [.agg [.lit (.int .i32 224), .lit (.int .i32 225), .lit (.int .i32 226), .lit (.int .i32 227), .lit (.int .i32 228), .lit (.int .i32 229), .lit (.int .i32 0)], .agg [.lit (.int .i32 0), .lit (.int .i32 0), .lit (.int .i32 0), .lit (.int .i32 0), .lit (.int .i32 0), .lit (.int .i32 0), .lit (.int .i32 231)], .agg [.lit (.int .i32 232), .lit (.int .i32 233), .lit (.int .i32 234), .lit (.int .i32 0), .lit (.int .i32 235), .lit (.int .i32 0), .lit (.int .i32 0)], .agg [.lit (.int .i32 236), .lit (.int .i32 237), .lit (.int .i32 238), .lit (.int .i32 0), .lit (.int .i32 239), .lit (.int .i32 0), .lit (.int .i32 0)], .agg [.lit (.int .i32 0), .lit (.int .i32 0), .lit (.int .i32 0), .lit (.int .i32 241), .lit (.int .i32 0), .lit (.int .i32 0), .lit (.int .i32 0)], .agg [.lit (.int .i32 242), .lit (.int .i32 243), .lit (.int .i32 244), .lit (.int .i32 245), .lit (.int .i32 246), .lit (.int .i32 0), .lit (.int .i32 0)], .agg [.lit (.int .i32 249), .lit (.int .i32 250), .lit (.int .i32 251), .lit (.int .i32 0), .lit (.int .i32 252), .lit (.int .i32 0), .lit (.int .i32 0)], .agg [.lit (.int .i32 0), .lit (.int .i32 253), .lit (.int .i32 0), .lit (.int .i32 0), .lit (.int .i32 255), .lit (.int .i32 0), .lit (.int .i32 0)]]

/-- 'gatepostlaw06.LabelOne': WHATEVER THE INPUT: true; the input reads as it did. -/
def labelOneSpec : ChangeSpec := { name := "labelOne", fn := fun _ => fun
  | [d] => { results := [.lit (.bool true)], args := [d] }
  | _ => none }
def labelOneRow : OpenClaim := { program := "ytfaieldafoeaiaagreatdoor", sum := "97428d26489a515b9748faf32a185b50fd6760f7a6a6e60c40a7c0132fe13e88", func := "gatepost/gatepostlaw06.LabelOne", spec := "labelOne", inPlace := ["slices.overlaps[rune]", "internal/abi.NoEscape", "internal/reflectlite.TypeOf", "internal/reflectlite.ValueOf", "(internal/reflectlite.Value).Type", "(internal/reflectlite.Value).IsNil", "(internal/reflectlite.Value).Elem", "(internal/reflectlite.Value).Set"], unfollowed := true, recurses := true, named := ["gatepost/fold.marks", "gatepost/fold.letters", "gatepost/fold.made", "gatepost/fold.spans", "errors.errorType"], apart := false, laid := [("errors.errorType", laid_errors_errorType), ("gatepost/fold.spans", laid_gatepost_fold_spans), ("gatepost/fold.letters", laid_gatepost_fold_letters), ("gatepost/fold.marks", laid_gatepost_fold_marks), ("gatepost/fold.made", laid_gatepost_fold_made)] }
def LabelOneSaid : Prop := labelOneRow.holds Tryz.pinned (OpenSpec.ofChange labelOneSpec)

/-- ITS FALSE NEIGHBOUR: 'it returns false'. Refute it at one input. -/
def labelOneWrong : ChangeSpec := { name := "labelOne", fn := fun _ => fun
  | [d] => { results := [.lit (.bool false)], args := [d] }
  | _ => none }
def LabelOneWrongFalsely : Prop := labelOneRow.holds Tryz.pinned (OpenSpec.ofChange labelOneWrong)

/-- 'gatepostlaw06.LabelAll': WHATEVER THE INPUT: true; the input reads as it did. -/
def labelAllSpec : ChangeSpec := { name := "labelAll", fn := fun _ => fun
  | [d] => { results := [.lit (.bool true)], args := [d] }
  | _ => none }
def labelAllRow : OpenClaim := { program := "ytfaieldafoeaiaagreatdoor", sum := "97428d26489a515b9748faf32a185b50fd6760f7a6a6e60c40a7c0132fe13e88", func := "gatepost/gatepostlaw06.LabelAll", spec := "labelAll", inPlace := ["slices.overlaps[rune]", "internal/abi.NoEscape", "internal/reflectlite.TypeOf", "internal/reflectlite.ValueOf", "(internal/reflectlite.Value).Type", "(internal/reflectlite.Value).IsNil", "(internal/reflectlite.Value).Elem", "(internal/reflectlite.Value).Set"], unfollowed := true, recurses := true, named := ["gatepost/fold.marks", "gatepost/fold.letters", "gatepost/fold.made", "gatepost/fold.spans", "errors.errorType"], apart := false, laid := [("errors.errorType", laid_errors_errorType), ("gatepost/fold.spans", laid_gatepost_fold_spans), ("gatepost/fold.letters", laid_gatepost_fold_letters), ("gatepost/fold.marks", laid_gatepost_fold_marks), ("gatepost/fold.made", laid_gatepost_fold_made)] }
def LabelAllSaid : Prop := labelAllRow.holds Tryz.pinned (OpenSpec.ofChange labelAllSpec)

/-- ITS FALSE NEIGHBOUR: 'it returns false'. Refute it at one input. -/
def labelAllWrong : ChangeSpec := { name := "labelAll", fn := fun _ => fun
  | [d] => { results := [.lit (.bool false)], args := [d] }
  | _ => none }
def LabelAllWrongFalsely : Prop := labelAllRow.holds Tryz.pinned (OpenSpec.ofChange labelAllWrong)

/-- 'gatepostlaw06.LabelFolds': WHATEVER THE INPUT: true; the input reads as it did. -/
def labelFoldsSpec : ChangeSpec := { name := "labelFolds", fn := fun _ => fun
  | [d] => { results := [.lit (.bool true)], args := [d] }
  | _ => none }
def labelFoldsRow : OpenClaim := { program := "ytfaieldafoeaiaagreatdoor", sum := "97428d26489a515b9748faf32a185b50fd6760f7a6a6e60c40a7c0132fe13e88", func := "gatepost/gatepostlaw06.LabelFolds", spec := "labelFolds", inPlace := ["slices.overlaps[rune]", "internal/abi.NoEscape", "internal/reflectlite.TypeOf", "internal/reflectlite.ValueOf", "(internal/reflectlite.Value).Type", "(internal/reflectlite.Value).IsNil", "(internal/reflectlite.Value).Elem", "(internal/reflectlite.Value).Set"], unfollowed := true, recurses := true, named := ["gatepost/fold.marks", "gatepost/fold.letters", "gatepost/fold.made", "gatepost/fold.spans", "errors.errorType"], apart := false, laid := [("errors.errorType", laid_errors_errorType), ("gatepost/fold.spans", laid_gatepost_fold_spans), ("gatepost/fold.letters", laid_gatepost_fold_letters), ("gatepost/fold.marks", laid_gatepost_fold_marks), ("gatepost/fold.made", laid_gatepost_fold_made)] }
def LabelFoldsSaid : Prop := labelFoldsRow.holds Tryz.pinned (OpenSpec.ofChange labelFoldsSpec)

/-- ITS FALSE NEIGHBOUR: 'it returns false'. Refute it at one input. -/
def labelFoldsWrong : ChangeSpec := { name := "labelFolds", fn := fun _ => fun
  | [d] => { results := [.lit (.bool false)], args := [d] }
  | _ => none }
def LabelFoldsWrongFalsely : Prop := labelFoldsRow.holds Tryz.pinned (OpenSpec.ofChange labelFoldsWrong)

/- THE SECOND FORM. 'bulk': how many values and letters a reading holds, each counted each time it is reached (what is shared counts as often as it is met; a slice's spare places count too). A statement '..UptoSaid' is the law's where the arguments, and the package variables that the reading takes, are together of bulk at most 1048576: NARROWER than '..Said'. Prove '..Said' where nothing that the law and all that it calls make is longer than what came in: it says more and counts as full. Else prove '..UptoSaid'. A law counts once. -/
mutual
def uptoBulk {H : Type} : DataW H → Nat
  | .lit (.string bytes) => bytes.length + 1
  | .lit _ => 1
  | .nil => 1
  | .ptr d => uptoBulk d + 1
  | .slice elems spare => uptoBulkAll elems + uptoBulkAll spare + 1
  | .agg parts => uptoBulkAll parts + 1
  | .iface _ d => uptoBulk d + 1
  | .map entries => uptoBulkEntries entries + 1
  | .held _ => 1
def uptoBulkAll {H : Type} : List (DataW H) → Nat
  | [] => 0
  | d :: r => uptoBulk d + uptoBulkAll r
def uptoBulkEntries {H : Type} : List (Lit × DataW H) → Nat
  | [] => 0
  | x :: r => uptoBulkEntry x + uptoBulkEntries r
def uptoBulkEntry {H : Type} : Lit × DataW H → Nat
  | (.string bytes, d) => bytes.length + uptoBulk d + 1
  | (_, d) => uptoBulk d + 1
 end
def uptoSmall : (H : Type) → List (DataW H) → Bool := fun _ ds => decide (uptoBulkAll ds ≤ 1048576)
def OpenSpec.upto (s : _root_.Go.ChangeSpec) : _root_.Go.OpenSpec := { _root_.Go.OpenSpec.ofChange s with cond := some uptoSmall }

/-- 'gatepostlaw06.LabelOne', WHERE WHAT IT READS IS OF BULK AT MOST 1048576: true; the input reads as it did. -/
def labelOneUptoRow : OpenClaim := { program := "ytfaieldafoeaiaagreatdoor", sum := "97428d26489a515b9748faf32a185b50fd6760f7a6a6e60c40a7c0132fe13e88", func := "gatepost/gatepostlaw06.LabelOne", spec := "labelOne", inPlace := ["slices.overlaps[rune]", "internal/abi.NoEscape", "internal/reflectlite.TypeOf", "internal/reflectlite.ValueOf", "(internal/reflectlite.Value).Type", "(internal/reflectlite.Value).IsNil", "(internal/reflectlite.Value).Elem", "(internal/reflectlite.Value).Set"], unfollowed := true, recurses := true, named := ["gatepost/fold.marks", "gatepost/fold.letters", "gatepost/fold.made", "gatepost/fold.spans", "errors.errorType"], apart := false, laid := [("errors.errorType", laid_errors_errorType), ("gatepost/fold.spans", laid_gatepost_fold_spans), ("gatepost/fold.letters", laid_gatepost_fold_letters), ("gatepost/fold.marks", laid_gatepost_fold_marks), ("gatepost/fold.made", laid_gatepost_fold_made)], narrowed := true }
def LabelOneUptoSaid : Prop := labelOneUptoRow.holds Tryz.pinned (OpenSpec.upto labelOneSpec)

/-- 'gatepostlaw06.LabelAll', WHERE WHAT IT READS IS OF BULK AT MOST 1048576: true; the input reads as it did. -/
def labelAllUptoRow : OpenClaim := { program := "ytfaieldafoeaiaagreatdoor", sum := "97428d26489a515b9748faf32a185b50fd6760f7a6a6e60c40a7c0132fe13e88", func := "gatepost/gatepostlaw06.LabelAll", spec := "labelAll", inPlace := ["slices.overlaps[rune]", "internal/abi.NoEscape", "internal/reflectlite.TypeOf", "internal/reflectlite.ValueOf", "(internal/reflectlite.Value).Type", "(internal/reflectlite.Value).IsNil", "(internal/reflectlite.Value).Elem", "(internal/reflectlite.Value).Set"], unfollowed := true, recurses := true, named := ["gatepost/fold.marks", "gatepost/fold.letters", "gatepost/fold.made", "gatepost/fold.spans", "errors.errorType"], apart := false, laid := [("errors.errorType", laid_errors_errorType), ("gatepost/fold.spans", laid_gatepost_fold_spans), ("gatepost/fold.letters", laid_gatepost_fold_letters), ("gatepost/fold.marks", laid_gatepost_fold_marks), ("gatepost/fold.made", laid_gatepost_fold_made)], narrowed := true }
def LabelAllUptoSaid : Prop := labelAllUptoRow.holds Tryz.pinned (OpenSpec.upto labelAllSpec)

/-- 'gatepostlaw06.LabelFolds', WHERE WHAT IT READS IS OF BULK AT MOST 1048576: true; the input reads as it did. -/
def labelFoldsUptoRow : OpenClaim := { program := "ytfaieldafoeaiaagreatdoor", sum := "97428d26489a515b9748faf32a185b50fd6760f7a6a6e60c40a7c0132fe13e88", func := "gatepost/gatepostlaw06.LabelFolds", spec := "labelFolds", inPlace := ["slices.overlaps[rune]", "internal/abi.NoEscape", "internal/reflectlite.TypeOf", "internal/reflectlite.ValueOf", "(internal/reflectlite.Value).Type", "(internal/reflectlite.Value).IsNil", "(internal/reflectlite.Value).Elem", "(internal/reflectlite.Value).Set"], unfollowed := true, recurses := true, named := ["gatepost/fold.marks", "gatepost/fold.letters", "gatepost/fold.made", "gatepost/fold.spans", "errors.errorType"], apart := false, laid := [("errors.errorType", laid_errors_errorType), ("gatepost/fold.spans", laid_gatepost_fold_spans), ("gatepost/fold.letters", laid_gatepost_fold_letters), ("gatepost/fold.marks", laid_gatepost_fold_marks), ("gatepost/fold.made", laid_gatepost_fold_made)], narrowed := true }
def LabelFoldsUptoSaid : Prop := labelFoldsUptoRow.holds Tryz.pinned (OpenSpec.upto labelFoldsSpec)

end Rows
end Go.Proofs.YtfaieldafoeaiaaGreatDoor

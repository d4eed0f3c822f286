/-
  NARROWER THAN 'FOR EVERY INPUT', by the rows' own cells (each row's printed sentence says how): FoldMaps: laid · FoldFolds: laid · FoldOnce: laid · FoldCapitals: laid · FoldJoins: laid.
  DERIVED. THE GIVEN ROWS OF THIS SEAT. 5 by the template 'for every input the law returns true; each argument reads behind the call as it read before'; 0 by the template 'total and deterministic' (their statements: YtjhppkbaidcliaaDoorTotals.lean).
  GIVEN WITH THE SEED: the statements are not yours to turn. If you find one false, say at which input.
  Laid BY PROGRAM, IN A SANDBOX (cutbox-rows.mjs): the forced cells as the released guide's own fill.sh prints them over the translation bd95705db73e49e0… (all of the seat's roots in one cut). By AI agents, Wed Nov 11 2026. No macro, syntax, notation, axiom, sorry.
-/
import Derived.Test.YtjhppkbaidcliaaDoorChecked
import GoSem.Claim
import GoSem.ClaimJoined
import GoSem.ClaimMapViews
import Derived.JoinedTies
import Derived.KernelRfl
namespace Go.Proofs.YtjhppkbaidcliaaDoor
/- THE CELL 'sum', in the pinned program and in every row, IS THE sha256 OF THE DUMP (.gsa) THAT YtjhppkbaidcliaaDoorProg.lean LOADS. Nothing in Lean hashes anything: it is a label: what it is worth is what the hold of that sum in a sandbox is worth. -/
noncomputable def Tryd.pinned : Pinned := { name := "ytjhppkbaidcliaadoor", sum := "bd95705db73e49e0ee39e7609205f933815f44084d20a2803d41f4ca8dbf9f30", checked := Tryd.checked }
namespace Rows
def none {H : Type} : Left H := { results := [], args := [] }

/- WHAT THE LISTED PACKAGE-LEVEL VARIABLES READ AS WHEN THE CALL BEGINS. Each datum BY PROGRAM (the guide's laid-datum.mjs) off the statement by which the dump's own 'gosem.cut.vars' lays the variable. In a bare row this is a premise. The card (YtjhppkbaidcliaaDoorCards.lean) ties it to the program's text. -/
def laid_gatepost_fold_spans {H : Type} : DataW H := .agg [.agg [.lit (.int .i32 (-2147483648)), .lit (.int .i32 (-1)), .lit (.int .i64 1), .lit (.int .i32 0)], .agg [.lit (.int .i32 65), .lit (.int .i32 90), .lit (.int .i64 0), .lit (.int .i32 32)], .agg [.lit (.int .i32 128), .lit (.int .i32 160), .lit (.int .i64 1), .lit (.int .i32 0)], .agg [.lit (.int .i32 173), .lit (.int .i32 173), .lit (.int .i64 2), .lit (.int .i32 0)], .agg [.lit (.int .i32 192), .lit (.int .i32 214), .lit (.int .i64 0), .lit (.int .i32 32)], .agg [.lit (.int .i32 216), .lit (.int .i32 222), .lit (.int .i64 0), .lit (.int .i32 32)], .agg [.lit (.int .i32 913), .lit (.int .i32 929), .lit (.int .i64 0), .lit (.int .i32 32)], .agg [.lit (.int .i32 931), .lit (.int .i32 937), .lit (.int .i64 0), .lit (.int .i32 32)], .agg [.lit (.int .i32 1024), .lit (.int .i32 1039), .lit (.int .i64 0), .lit (.int .i32 80)], .agg [.lit (.int .i32 1040), .lit (.int .i32 1071), .lit (.int .i64 0), .lit (.int .i32 32)], .agg [.lit (.int .i32 5760), .lit (.int .i32 5760), .lit (.int .i64 1), .lit (.int .i32 0)], .agg [.lit (.int .i32 7838), .lit (.int .i32 7838), .lit (.int .i64 5), .lit (.int .i32 0)], .agg [.lit (.int .i32 8192), .lit (.int .i32 8202), .lit (.int .i64 1), .lit (.int .i32 0)], .agg [.lit (.int .i32 8203), .lit (.int .i32 8203), .lit (.int .i64 2), .lit (.int .i32 0)], .agg [.lit (.int .i32 8206), .lit (.int .i32 8207), .lit (.int .i64 1), .lit (.int .i32 0)], .agg [.lit (.int .i32 8232), .lit (.int .i32 8239), .lit (.int .i64 1), .lit (.int .i32 0)], .agg [.lit (.int .i32 8287), .lit (.int .i32 8287), .lit (.int .i64 1), .lit (.int .i32 0)], .agg [.lit (.int .i32 8288), .lit (.int .i32 8288), .lit (.int .i64 2), .lit (.int .i32 0)], .agg [.lit (.int .i32 8294), .lit (.int .i32 8297), .lit (.int .i64 1), .lit (.int .i32 0)], .agg [.lit (.int .i32 12290), .lit (.int .i32 12290), .lit (.int .i64 3), .lit (.int .i32 0)], .agg [.lit (.int .i32 55296), .lit (.int .i32 57343), .lit (.int .i64 1), .lit (.int .i32 0)], .agg [.lit (.int .i32 57344), .lit (.int .i32 63743), .lit (.int .i64 1), .lit (.int .i32 0)], .agg [.lit (.int .i32 64976), .lit (.int .i32 65007), .lit (.int .i64 1), .lit (.int .i32 0)], .agg [.lit (.int .i32 65279), .lit (.int .i32 65279), .lit (.int .i64 2), .lit (.int .i32 0)], .agg [.lit (.int .i32 65281), .lit (.int .i32 65374), .lit (.int .i64 4), .lit (.int .i32 0)], .agg [.lit (.int .i32 65377), .lit (.int .i32 65377), .lit (.int .i64 3), .lit (.int .i32 0)], .agg [.lit (.int .i32 65529), .lit (.int .i32 65535), .lit (.int .i64 1), .lit (.int .i32 0)], .agg [.lit (.int .i32 917504), .lit (.int .i32 2147483647), .lit (.int .i64 1), .lit (.int .i32 0)]]
def laid_gatepost_fold_letters {H : Type} : DataW H := .agg [.lit (.int .i32 97), .lit (.int .i32 99), .lit (.int .i32 101), .lit (.int .i32 105), .lit (.int .i32 110), .lit (.int .i32 111), .lit (.int .i32 117), .lit (.int .i32 121)]
def laid_gatepost_fold_marks {H : Type} : DataW H := .agg [.lit (.int .i32 768), .lit (.int .i32 769), .lit (.int .i32 770), .lit (.int .i32 771), .lit (.int .i32 776), .lit (.int .i32 778), .lit (.int .i32 807)]
def laid_gatepost_fold_made {H : Type} : DataW H := .agg [.agg [.lit (.int .i32 224), .lit (.int .i32 225), .lit (.int .i32 226), .lit (.int .i32 227), .lit (.int .i32 228), .lit (.int .i32 229), .lit (.int .i32 0)], .agg [.lit (.int .i32 0), .lit (.int .i32 0), .lit (.int .i32 0), .lit (.int .i32 0), .lit (.int .i32 0), .lit (.int .i32 0), .lit (.int .i32 231)], .agg [.lit (.int .i32 232), .lit (.int .i32 233), .lit (.int .i32 234), .lit (.int .i32 0), .lit (.int .i32 235), .lit (.int .i32 0), .lit (.int .i32 0)], .agg [.lit (.int .i32 236), .lit (.int .i32 237), .lit (.int .i32 238), .lit (.int .i32 0), .lit (.int .i32 239), .lit (.int .i32 0), .lit (.int .i32 0)], .agg [.lit (.int .i32 0), .lit (.int .i32 0), .lit (.int .i32 0), .lit (.int .i32 241), .lit (.int .i32 0), .lit (.int .i32 0), .lit (.int .i32 0)], .agg [.lit (.int .i32 242), .lit (.int .i32 243), .lit (.int .i32 244), .lit (.int .i32 245), .lit (.int .i32 246), .lit (.int .i32 0), .lit (.int .i32 0)], .agg [.lit (.int .i32 249), .lit (.int .i32 250), .lit (.int .i32 251), .lit (.int .i32 0), .lit (.int .i32 252), .lit (.int .i32 0), .lit (.int .i32 0)], .agg [.lit (.int .i32 0), .lit (.int .i32 253), .lit (.int .i32 0), .lit (.int .i32 0), .lit (.int .i32 255), .lit (.int .i32 0), .lit (.int .i32 0)]]
def laid_errors_errorType {H : Type} : DataW H := .iface "internal/reflectlite.rtype" (.agg [.ptr (.lit (.string [101, 114, 114, 111, 114]))])

/-- 'gatepostlaw05.FoldMaps': WHATEVER THE INPUT: true; the input reads as it did. -/
def foldMapsSpec : ChangeSpec := { name := "foldMaps", fn := fun _ => fun
  | [d] => { results := [.lit (.bool true)], args := [d] }
  | _ => none }
def foldMapsRow : OpenClaim := { program := "ytjhppkbaidcliaadoor", sum := "bd95705db73e49e0ee39e7609205f933815f44084d20a2803d41f4ca8dbf9f30", func := "gatepost/gatepostlaw05.FoldMaps", spec := "foldMaps", inPlace := ["internal/reflectlite.TypeOf"], unfollowed := true, recurses := true, named := ["gatepost/fold.marks", "gatepost/fold.letters", "gatepost/fold.made", "gatepost/fold.spans"], apart := false, laid := [("gatepost/fold.spans", laid_gatepost_fold_spans), ("gatepost/fold.letters", laid_gatepost_fold_letters), ("gatepost/fold.marks", laid_gatepost_fold_marks), ("gatepost/fold.made", laid_gatepost_fold_made)] }
def FoldMapsSaid : Prop := foldMapsRow.holds Tryd.pinned (OpenSpec.ofChange foldMapsSpec)

/-- ITS FALSE NEIGHBOUR: 'it returns false'. Refute it at one input. -/
def foldMapsWrong : ChangeSpec := { name := "foldMaps", fn := fun _ => fun
  | [d] => { results := [.lit (.bool false)], args := [d] }
  | _ => none }
def FoldMapsWrongFalsely : Prop := foldMapsRow.holds Tryd.pinned (OpenSpec.ofChange foldMapsWrong)

/-- 'gatepostlaw05.FoldFolds': WHATEVER THE INPUT: true; the input reads as it did. -/
def foldFoldsSpec : ChangeSpec := { name := "foldFolds", fn := fun _ => fun
  | [d] => { results := [.lit (.bool true)], args := [d] }
  | _ => none }
def foldFoldsRow : OpenClaim := { program := "ytjhppkbaidcliaadoor", sum := "bd95705db73e49e0ee39e7609205f933815f44084d20a2803d41f4ca8dbf9f30", func := "gatepost/gatepostlaw05.FoldFolds", spec := "foldFolds", inPlace := ["internal/reflectlite.TypeOf", "internal/reflectlite.ValueOf", "(internal/reflectlite.Value).Type", "(internal/reflectlite.Value).IsNil", "(internal/reflectlite.Value).Elem", "(internal/reflectlite.Value).Set"], unfollowed := true, recurses := true, named := ["gatepost/fold.marks", "gatepost/fold.letters", "gatepost/fold.made", "gatepost/fold.spans", "errors.errorType"], apart := false, laid := [("errors.errorType", laid_errors_errorType), ("gatepost/fold.spans", laid_gatepost_fold_spans), ("gatepost/fold.letters", laid_gatepost_fold_letters), ("gatepost/fold.marks", laid_gatepost_fold_marks), ("gatepost/fold.made", laid_gatepost_fold_made)] }
def FoldFoldsSaid : Prop := foldFoldsRow.holds Tryd.pinned (OpenSpec.ofChange foldFoldsSpec)

/-- ITS FALSE NEIGHBOUR: 'it returns false'. Refute it at one input. -/
def foldFoldsWrong : ChangeSpec := { name := "foldFolds", fn := fun _ => fun
  | [d] => { results := [.lit (.bool false)], args := [d] }
  | _ => none }
def FoldFoldsWrongFalsely : Prop := foldFoldsRow.holds Tryd.pinned (OpenSpec.ofChange foldFoldsWrong)

/-- 'gatepostlaw05.FoldOnce': WHATEVER THE INPUT: true; the input reads as it did. -/
def foldOnceSpec : ChangeSpec := { name := "foldOnce", fn := fun _ => fun
  | [d] => { results := [.lit (.bool true)], args := [d] }
  | _ => none }
def foldOnceRow : OpenClaim := { program := "ytjhppkbaidcliaadoor", sum := "bd95705db73e49e0ee39e7609205f933815f44084d20a2803d41f4ca8dbf9f30", func := "gatepost/gatepostlaw05.FoldOnce", spec := "foldOnce", inPlace := ["internal/reflectlite.TypeOf"], unfollowed := true, recurses := true, named := ["gatepost/fold.marks", "gatepost/fold.letters", "gatepost/fold.made", "gatepost/fold.spans"], apart := false, laid := [("gatepost/fold.spans", laid_gatepost_fold_spans), ("gatepost/fold.letters", laid_gatepost_fold_letters), ("gatepost/fold.marks", laid_gatepost_fold_marks), ("gatepost/fold.made", laid_gatepost_fold_made)] }
def FoldOnceSaid : Prop := foldOnceRow.holds Tryd.pinned (OpenSpec.ofChange foldOnceSpec)

/-- ITS FALSE NEIGHBOUR: 'it returns false'. Refute it at one input. -/
def foldOnceWrong : ChangeSpec := { name := "foldOnce", fn := fun _ => fun
  | [d] => { results := [.lit (.bool false)], args := [d] }
  | _ => none }
def FoldOnceWrongFalsely : Prop := foldOnceRow.holds Tryd.pinned (OpenSpec.ofChange foldOnceWrong)

/-- 'gatepostlaw05.FoldCapitals': WHATEVER THE INPUT: true; the input reads as it did. -/
def foldCapitalsSpec : ChangeSpec := { name := "foldCapitals", fn := fun _ => fun
  | [d] => { results := [.lit (.bool true)], args := [d] }
  | _ => none }
def foldCapitalsRow : OpenClaim := { program := "ytjhppkbaidcliaadoor", sum := "bd95705db73e49e0ee39e7609205f933815f44084d20a2803d41f4ca8dbf9f30", func := "gatepost/gatepostlaw05.FoldCapitals", spec := "foldCapitals", inPlace := ["internal/reflectlite.TypeOf"], unfollowed := true, recurses := true, named := ["gatepost/fold.marks", "gatepost/fold.letters", "gatepost/fold.made", "gatepost/fold.spans"], apart := false, laid := [("gatepost/fold.spans", laid_gatepost_fold_spans), ("gatepost/fold.letters", laid_gatepost_fold_letters), ("gatepost/fold.marks", laid_gatepost_fold_marks), ("gatepost/fold.made", laid_gatepost_fold_made)] }
def FoldCapitalsSaid : Prop := foldCapitalsRow.holds Tryd.pinned (OpenSpec.ofChange foldCapitalsSpec)

/-- ITS FALSE NEIGHBOUR: 'it returns false'. Refute it at one input. -/
def foldCapitalsWrong : ChangeSpec := { name := "foldCapitals", fn := fun _ => fun
  | [d] => { results := [.lit (.bool false)], args := [d] }
  | _ => none }
def FoldCapitalsWrongFalsely : Prop := foldCapitalsRow.holds Tryd.pinned (OpenSpec.ofChange foldCapitalsWrong)

/-- 'gatepostlaw05.FoldJoins': WHATEVER THE INPUT: true; the input reads as it did. -/
def foldJoinsSpec : ChangeSpec := { name := "foldJoins", fn := fun _ => fun
  | [d1, d2] => { results := [.lit (.bool true)], args := [d1, d2] }
  | _ => none }
def foldJoinsRow : OpenClaim := { program := "ytjhppkbaidcliaadoor", sum := "bd95705db73e49e0ee39e7609205f933815f44084d20a2803d41f4ca8dbf9f30", func := "gatepost/gatepostlaw05.FoldJoins", spec := "foldJoins", inPlace := ["internal/reflectlite.TypeOf"], unfollowed := true, recurses := true, named := ["gatepost/fold.marks", "gatepost/fold.letters", "gatepost/fold.made", "gatepost/fold.spans"], apart := false, laid := [("gatepost/fold.spans", laid_gatepost_fold_spans), ("gatepost/fold.letters", laid_gatepost_fold_letters), ("gatepost/fold.marks", laid_gatepost_fold_marks), ("gatepost/fold.made", laid_gatepost_fold_made)] }
def FoldJoinsSaid : Prop := foldJoinsRow.holds Tryd.pinned (OpenSpec.ofChange foldJoinsSpec)

/-- ITS FALSE NEIGHBOUR: 'it returns false'. Refute it at one input. -/
def foldJoinsWrong : ChangeSpec := { name := "foldJoins", fn := fun _ => fun
  | [d1, d2] => { results := [.lit (.bool false)], args := [d1, d2] }
  | _ => none }
def FoldJoinsWrongFalsely : Prop := foldJoinsRow.holds Tryd.pinned (OpenSpec.ofChange foldJoinsWrong)

/- THE SECOND FORM. 'bulk': how many values and letters a reading holds, each counted each time it is reached (what is shared counts as often as it is met; a slice's spare places count too). A statement '..UptoSaid' is the law's where the arguments, and the package variables that the reading takes, are together of bulk at most 1048576: NARROWER than '..Said'. Prove '..Said' where nothing that the law and all that it calls make is longer than what came in: it says more and counts as full. Else prove '..UptoSaid'. A law counts once. -/
mutual
def uptoBulk {H : Type} : DataW H → Nat
  | .lit (.string bytes) => bytes.length + 1
  | .lit _ => 1
  | .nil => 1
  | .ptr d => uptoBulk d + 1
  | .slice elems spare => uptoBulkAll elems + uptoBulkAll spare + 1
  | .agg parts => uptoBulkAll parts + 1
  | .iface _ d => uptoBulk d + 1
  | .map entries => uptoBulkEntries entries + 1
  | .held _ => 1
def uptoBulkAll {H : Type} : List (DataW H) → Nat
  | [] => 0
  | d :: r => uptoBulk d + uptoBulkAll r
def uptoBulkEntries {H : Type} : List (Lit × DataW H) → Nat
  | [] => 0
  | x :: r => uptoBulkEntry x + uptoBulkEntries r
def uptoBulkEntry {H : Type} : Lit × DataW H → Nat
  | (.string bytes, d) => bytes.length + uptoBulk d + 1
  | (_, d) => uptoBulk d + 1
 end
def uptoSmall : (H : Type) → List (DataW H) → Bool := fun _ ds => decide (uptoBulkAll ds ≤ 1048576)
def OpenSpec.upto (s : _root_.Go.ChangeSpec) : _root_.Go.OpenSpec := { _root_.Go.OpenSpec.ofChange s with cond := some uptoSmall }

/-- 'gatepostlaw05.FoldMaps', WHERE WHAT IT READS IS OF BULK AT MOST 1048576: true; the input reads as it did. -/
def foldMapsUptoRow : OpenClaim := { program := "ytjhppkbaidcliaadoor", sum := "bd95705db73e49e0ee39e7609205f933815f44084d20a2803d41f4ca8dbf9f30", func := "gatepost/gatepostlaw05.FoldMaps", spec := "foldMaps", inPlace := ["internal/reflectlite.TypeOf"], unfollowed := true, recurses := true, named := ["gatepost/fold.marks", "gatepost/fold.letters", "gatepost/fold.made", "gatepost/fold.spans"], apart := false, laid := [("gatepost/fold.spans", laid_gatepost_fold_spans), ("gatepost/fold.letters", laid_gatepost_fold_letters), ("gatepost/fold.marks", laid_gatepost_fold_marks), ("gatepost/fold.made", laid_gatepost_fold_made)], narrowed := true }
def FoldMapsUptoSaid : Prop := foldMapsUptoRow.holds Tryd.pinned (OpenSpec.upto foldMapsSpec)

/-- 'gatepostlaw05.FoldFolds', WHERE WHAT IT READS IS OF BULK AT MOST 1048576: true; the input reads as it did. -/
def foldFoldsUptoRow : OpenClaim := { program := "ytjhppkbaidcliaadoor", sum := "bd95705db73e49e0ee39e7609205f933815f44084d20a2803d41f4ca8dbf9f30", func := "gatepost/gatepostlaw05.FoldFolds", spec := "foldFolds", inPlace := ["internal/reflectlite.TypeOf", "internal/reflectlite.ValueOf", "(internal/reflectlite.Value).Type", "(internal/reflectlite.Value).IsNil", "(internal/reflectlite.Value).Elem", "(internal/reflectlite.Value).Set"], unfollowed := true, recurses := true, named := ["gatepost/fold.marks", "gatepost/fold.letters", "gatepost/fold.made", "gatepost/fold.spans", "errors.errorType"], apart := false, laid := [("errors.errorType", laid_errors_errorType), ("gatepost/fold.spans", laid_gatepost_fold_spans), ("gatepost/fold.letters", laid_gatepost_fold_letters), ("gatepost/fold.marks", laid_gatepost_fold_marks), ("gatepost/fold.made", laid_gatepost_fold_made)], narrowed := true }
def FoldFoldsUptoSaid : Prop := foldFoldsUptoRow.holds Tryd.pinned (OpenSpec.upto foldFoldsSpec)

/-- 'gatepostlaw05.FoldOnce', WHERE WHAT IT READS IS OF BULK AT MOST 1048576: true; the input reads as it did. -/
def foldOnceUptoRow : OpenClaim := { program := "ytjhppkbaidcliaadoor", sum := "bd95705db73e49e0ee39e7609205f933815f44084d20a2803d41f4ca8dbf9f30", func := "gatepost/gatepostlaw05.FoldOnce", spec := "foldOnce", inPlace := ["internal/reflectlite.TypeOf"], unfollowed := true, recurses := true, named := ["gatepost/fold.marks", "gatepost/fold.letters", "gatepost/fold.made", "gatepost/fold.spans"], apart := false, laid := [("gatepost/fold.spans", laid_gatepost_fold_spans), ("gatepost/fold.letters", laid_gatepost_fold_letters), ("gatepost/fold.marks", laid_gatepost_fold_marks), ("gatepost/fold.made", laid_gatepost_fold_made)], narrowed := true }
def FoldOnceUptoSaid : Prop := foldOnceUptoRow.holds Tryd.pinned (OpenSpec.upto foldOnceSpec)

/-- 'gatepostlaw05.FoldCapitals', WHERE WHAT IT READS IS OF BULK AT MOST 1048576: true; the input reads as it did. -/
def foldCapitalsUptoRow : OpenClaim := { program := "ytjhppkbaidcliaadoor", sum := "bd95705db73e49e0ee39e7609205f933815f44084d20a2803d41f4ca8dbf9f30", func := "gatepost/gatepostlaw05.FoldCapitals", spec := "foldCapitals", inPlace := ["internal/reflectlite.TypeOf"], unfollowed := true, recurses := true, named := ["gatepost/fold.marks", "gatepost/fold.letters", "gatepost/fold.made", "gatepost/fold.spans"], apart := false, laid := [("gatepost/fold.spans", laid_gatepost_fold_spans), ("gatepost/fold.letters", laid_gatepost_fold_letters), ("gatepost/fold.marks", laid_gatepost_fold_marks), ("gatepost/fold.made", laid_gatepost_fold_made)], narrowed := true }
def FoldCapitalsUptoSaid : Prop := foldCapitalsUptoRow.holds Tryd.pinned (OpenSpec.upto foldCapitalsSpec)

/-- 'gatepostlaw05.FoldJoins', WHERE WHAT IT READS IS OF BULK AT MOST 1048576: true; the input reads as it did. -/
def foldJoinsUptoRow : OpenClaim := { program := "ytjhppkbaidcliaadoor", sum := "bd95705db73e49e0ee39e7609205f933815f44084d20a2803d41f4ca8dbf9f30", func := "gatepost/gatepostlaw05.FoldJoins", spec := "foldJoins", inPlace := ["internal/reflectlite.TypeOf"], unfollowed := true, recurses := true, named := ["gatepost/fold.marks", "gatepost/fold.letters", "gatepost/fold.made", "gatepost/fold.spans"], apart := false, laid := [("gatepost/fold.spans", laid_gatepost_fold_spans), ("gatepost/fold.letters", laid_gatepost_fold_letters), ("gatepost/fold.marks", laid_gatepost_fold_marks), ("gatepost/fold.made", laid_gatepost_fold_made)], narrowed := true }
def FoldJoinsUptoSaid : Prop := foldJoinsUptoRow.holds Tryd.pinned (OpenSpec.upto foldJoinsSpec)

end Rows
end Go.Proofs.YtjhppkbaidcliaaDoor

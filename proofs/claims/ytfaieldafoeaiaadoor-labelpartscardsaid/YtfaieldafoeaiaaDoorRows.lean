/-
  NARROWER THAN 'FOR EVERY INPUT', by the rows' own cells (each row's printed sentence says how): LabelOnce: laid · LabelParts: laid.
  DERIVED. THE GIVEN ROWS OF THIS SEAT. 2 by the template 'for every input the law returns true; each argument reads behind the call as it read before'; 0 by the template 'total and deterministic' (their statements: YtfaieldafoeaiaaDoorTotals.lean).
  GIVEN WITH THE SEED: the statements are not yours to turn. If you find one false, say at which input.
  Laid BY PROGRAM, IN A SANDBOX (cutbox-rows.mjs): the forced cells as the released guide's own fill.sh prints them over the translation a2bd345b31e7ce26… (all of the seat's roots in one cut). By AI agents, Wed Nov 11 2026. No macro, syntax, notation, axiom, sorry.
-/
import Derived.Test.YtfaieldafoeaiaaDoorChecked
import GoSem.Claim
import GoSem.ClaimJoined
import GoSem.ClaimMapViews
import Derived.JoinedTies
import Derived.KernelRfl
namespace Go.Proofs.YtfaieldafoeaiaaDoor
/- THE CELL 'sum', in the pinned program and in every row, IS THE sha256 OF THE DUMP (.gsa) THAT YtfaieldafoeaiaaDoorProg.lean LOADS. Nothing in Lean hashes anything: it is a label: what it is worth is what the hold of that sum in a sandbox is worth. -/
noncomputable def Tryd.pinned : Pinned := { name := "ytfaieldafoeaiaadoor", sum := "a2bd345b31e7ce2699cc93635636e029e79632aa5e634d3f77a68e8c3535ac2c", checked := Tryd.checked }
namespace Rows
def none {H : Type} : Left H := { results := [], args := [] }

/- WHAT THE LISTED PACKAGE-LEVEL VARIABLES READ AS WHEN THE CALL BEGINS. Each datum BY PROGRAM (the guide's laid-datum.mjs) off the statement by which the dump's own 'gosem.cut.vars' lays the variable. In a bare row this is a premise. The card (YtfaieldafoeaiaaDoorCards.lean) ties it to the program's text. -/
def laid_gatepost_fold_spans {H : Type} : DataW H := .agg [.agg [.lit (.int .i32 (-2147483648)), .lit (.int .i32 (-1)), .lit (.int .i64 1), .lit (.int .i32 0)], .agg [.lit (.int .i32 65), .lit (.int .i32 90), .lit (.int .i64 0), .lit (.int .i32 32)], .agg [.lit (.int .i32 128), .lit (.int .i32 160), .lit (.int .i64 1), .lit (.int .i32 0)], .agg [.lit (.int .i32 173), .lit (.int .i32 173), .lit (.int .i64 2), .lit (.int .i32 0)], .agg [.lit (.int .i32 192), .lit (.int .i32 214), .lit (.int .i64 0), .lit (.int .i32 32)], .agg [.lit (.int .i32 216), .lit (.int .i32 222), .lit (.int .i64 0), .lit (.int .i32 32)], .agg [.lit (.int .i32 913), .lit (.int .i32 929), .lit (.int .i64 0), .lit (.int .i32 32)], .agg [.lit (.int .i32 931), .lit (.int .i32 937), .lit (.int .i64 0), .lit (.int .i32 32)], .agg [.lit (.int .i32 1024), .lit (.int .i32 1039), .lit (.int .i64 0), .lit (.int .i32 80)], .agg [.lit (.int .i32 1040), .lit (.int .i32 1071), .lit (.int .i64 0), .lit (.int .i32 32)], .agg [.lit (.int .i32 5760), .lit (.int .i32 5760), .lit (.int .i64 1), .lit (.int .i32 0)], .agg [.lit (.int .i32 7838), .lit (.int .i32 7838), .lit (.int .i64 5), .lit (.int .i32 0)], .agg [.lit (.int .i32 8192), .lit (.int .i32 8202), .lit (.int .i64 1), .lit (.int .i32 0)], .agg [.lit (.int .i32 8203), .lit (.int .i32 8203), .lit (.int .i64 2), .lit (.int .i32 0)], .agg [.lit (.int .i32 8206), .lit (.int .i32 8207), .lit (.int .i64 1), .lit (.int .i32 0)], .agg [.lit (.int .i32 8232), .lit (.int .i32 8239), .lit (.int .i64 1), .lit (.int .i32 0)], .agg [.lit (.int .i32 8287), .lit (.int .i32 8287), .lit (.int .i64 1), .lit (.int .i32 0)], .agg [.lit (.int .i32 8288), .lit (.int .i32 8288), .lit (.int .i64 2), .lit (.int .i32 0)], .agg [.lit (.int .i32 8294), .lit (.int .i32 8297), .lit (.int .i64 1), .lit (.int .i32 0)], .agg [.lit (.int .i32 12290), .lit (.int .i32 12290), .lit (.int .i64 3), .lit (.int .i32 0)], .agg [.lit (.int .i32 55296), .lit (.int .i32 57343), .lit (.int .i64 1), .lit (.int .i32 0)], .agg [.lit (.int .i32 57344), .lit (.int .i32 63743), .lit (.int .i64 1), .lit (.int .i32 0)], .agg [.lit (.int .i32 64976), .lit (.int .i32 65007), .lit (.int .i64 1), .lit (.int .i32 0)], .agg [.lit (.int .i32 65279), .lit (.int .i32 65279), .lit (.int .i64 2), .lit (.int .i32 0)], .agg [.lit (.int .i32 65281), .lit (.int .i32 65374), .lit (.int .i64 4), .lit (.int .i32 0)], .agg [.lit (.int .i32 65377), .lit (.int .i32 65377), .lit (.int .i64 3), .lit (.int .i32 0)], .agg [.lit (.int .i32 65529), .lit (.int .i32 65535), .lit (.int .i64 1), .lit (.int .i32 0)], .agg [.lit (.int .i32 917504), .lit (.int .i32 2147483647), .lit (.int .i64 1), .lit (.int .i32 0)]]
def laid_gatepost_fold_letters {H : Type} : DataW H := .agg [.lit (.int .i32 97), .lit (.int .i32 99), .lit (.int .i32 101), .lit (.int .i32 105), .lit (.int .i32 110), .lit (.int .i32 111), .lit (.int .i32 117), .lit (.int .i32 121)]
def laid_gatepost_fold_marks {H : Type} : DataW H := .agg [.lit (.int .i32 768), .lit (.int .i32 769), .lit (.int .i32 770), .lit (.int .i32 771), .lit (.int .i32 776), .lit (.int .i32 778), .lit (.int .i32 807)]
def laid_gatepost_fold_made {H : Type} : DataW H := .agg [.agg [.lit (.int .i32 224), .lit (.int .i32 225), .lit (.int .i32 226), .lit (.int .i32 227), .lit (.int .i32 228), .lit (.int .i32 229), .lit (.int .i32 0)], .agg [.lit (.int .i32 0), .lit (.int .i32 0), .lit (.int .i32 0), .lit (.int .i32 0), .lit (.int .i32 0), .lit (.int .i32 0), .lit (.int .i32 231)], .agg [.lit (.int .i32 232), .lit (.int .i32 233), .lit (.int .i32 234), .lit (.int .i32 0), .lit (.int .i32 235), .lit (.int .i32 0), .lit (.int .i32 0)], .agg [.lit (.int .i32 236), .lit (.int .i32 237), .lit (.int .i32 238), .lit (.int .i32 0), .lit (.int .i32 239), .lit (.int .i32 0), .lit (.int .i32 0)], .agg [.lit (.int .i32 0), .lit (.int .i32 0), .lit (.int .i32 0), .lit (.int .i32 241), .lit (.int .i32 0), .lit (.int .i32 0), .lit (.int .i32 0)], .agg [.lit (.int .i32 242), .lit (.int .i32 243), .lit (.int .i32 244), .lit (.int .i32 245), .lit (.int .i32 246), .lit (.int .i32 0), .lit (.int .i32 0)], .agg [.lit (.int .i32 249), .lit (.int .i32 250), .lit (.int .i32 251), .lit (.int .i32 0), .lit (.int .i32 252), .lit (.int .i32 0), .lit (.int .i32 0)], .agg [.lit (.int .i32 0), .lit (.int .i32 253), .lit (.int .i32 0), .lit (.int .i32 0), .lit (.int .i32 255), .lit (.int .i32 0), .lit (.int .i32 0)]]
def laid_errors_errorType {H : Type} : DataW H := .iface "internal/reflectlite.rtype" (.agg [.ptr (.lit (.string [101, 114, 114, 111, 114]))])

/-- 'gatepostlaw06.LabelOnce': WHATEVER THE INPUT: true; the input reads as it did. -/
def labelOnceSpec : ChangeSpec := { name := "labelOnce", fn := fun _ => fun
  | [d] => { results := [.lit (.bool true)], args := [d] }
  | _ => none }
def labelOnceRow : OpenClaim := { program := "ytfaieldafoeaiaadoor", sum := "a2bd345b31e7ce2699cc93635636e029e79632aa5e634d3f77a68e8c3535ac2c", func := "gatepost/gatepostlaw06.LabelOnce", spec := "labelOnce", inPlace := ["slices.overlaps[rune]", "internal/abi.NoEscape", "internal/reflectlite.TypeOf"], unfollowed := true, recurses := true, named := ["gatepost/fold.marks", "gatepost/fold.letters", "gatepost/fold.made", "gatepost/fold.spans"], apart := false, laid := [("gatepost/fold.spans", laid_gatepost_fold_spans), ("gatepost/fold.letters", laid_gatepost_fold_letters), ("gatepost/fold.marks", laid_gatepost_fold_marks), ("gatepost/fold.made", laid_gatepost_fold_made)] }
def LabelOnceSaid : Prop := labelOnceRow.holds Tryd.pinned (OpenSpec.ofChange labelOnceSpec)

/-- ITS FALSE NEIGHBOUR: 'it returns false'. Refute it at one input. -/
def labelOnceWrong : ChangeSpec := { name := "labelOnce", fn := fun _ => fun
  | [d] => { results := [.lit (.bool false)], args := [d] }
  | _ => none }
def LabelOnceWrongFalsely : Prop := labelOnceRow.holds Tryd.pinned (OpenSpec.ofChange labelOnceWrong)

/-- 'gatepostlaw06.LabelParts': WHATEVER THE INPUT: true; the input reads as it did. -/
def labelPartsSpec : ChangeSpec := { name := "labelParts", fn := fun _ => fun
  | [d1, d2] => { results := [.lit (.bool true)], args := [d1, d2] }
  | _ => none }
def labelPartsRow : OpenClaim := { program := "ytfaieldafoeaiaadoor", sum := "a2bd345b31e7ce2699cc93635636e029e79632aa5e634d3f77a68e8c3535ac2c", func := "gatepost/gatepostlaw06.LabelParts", spec := "labelParts", inPlace := ["slices.overlaps[rune]", "internal/abi.NoEscape", "internal/reflectlite.TypeOf", "internal/reflectlite.ValueOf", "(internal/reflectlite.Value).Type", "(internal/reflectlite.Value).IsNil", "(internal/reflectlite.Value).Elem", "(internal/reflectlite.Value).Set"], unfollowed := true, recurses := true, named := ["gatepost/fold.marks", "gatepost/fold.letters", "gatepost/fold.made", "gatepost/fold.spans", "errors.errorType"], apart := false, laid := [("errors.errorType", laid_errors_errorType), ("gatepost/fold.spans", laid_gatepost_fold_spans), ("gatepost/fold.letters", laid_gatepost_fold_letters), ("gatepost/fold.marks", laid_gatepost_fold_marks), ("gatepost/fold.made", laid_gatepost_fold_made)] }
def LabelPartsSaid : Prop := labelPartsRow.holds Tryd.pinned (OpenSpec.ofChange labelPartsSpec)

/-- ITS FALSE NEIGHBOUR: 'it returns false'. Refute it at one input. -/
def labelPartsWrong : ChangeSpec := { name := "labelParts", fn := fun _ => fun
  | [d1, d2] => { results := [.lit (.bool false)], args := [d1, d2] }
  | _ => none }
def LabelPartsWrongFalsely : Prop := labelPartsRow.holds Tryd.pinned (OpenSpec.ofChange labelPartsWrong)

/- THE SECOND FORM. 'bulk': how many values and letters a reading holds, each counted each time it is reached (what is shared counts as often as it is met; a slice's spare places count too). A statement '..UptoSaid' is the law's where the arguments, and the package variables that the reading takes, are together of bulk at most 1048576: NARROWER than '..Said'. Prove '..Said' where nothing that the law and all that it calls make is longer than what came in: it says more and counts as full. Else prove '..UptoSaid'. A law counts once. -/
mutual
def uptoBulk {H : Type} : DataW H → Nat
  | .lit (.string bytes) => bytes.length + 1
  | .lit _ => 1
  | .nil => 1
  | .ptr d => uptoBulk d + 1
  | .slice elems spare => uptoBulkAll elems + uptoBulkAll spare + 1
  | .agg parts => uptoBulkAll parts + 1
  | .iface _ d => uptoBulk d + 1
  | .map entries => uptoBulkEntries entries + 1
  | .held _ => 1
def uptoBulkAll {H : Type} : List (DataW H) → Nat
  | [] => 0
  | d :: r => uptoBulk d + uptoBulkAll r
def uptoBulkEntries {H : Type} : List (Lit × DataW H) → Nat
  | [] => 0
  | x :: r => uptoBulkEntry x + uptoBulkEntries r
def uptoBulkEntry {H : Type} : Lit × DataW H → Nat
  | (.string bytes, d) => bytes.length + uptoBulk d + 1
  | (_, d) => uptoBulk d + 1
 end
def uptoSmall : (H : Type) → List (DataW H) → Bool := fun _ ds => decide (uptoBulkAll ds ≤ 1048576)
def OpenSpec.upto (s : _root_.Go.ChangeSpec) : _root_.Go.OpenSpec := { _root_.Go.OpenSpec.ofChange s with cond := some uptoSmall }

/-- 'gatepostlaw06.LabelOnce', WHERE WHAT IT READS IS OF BULK AT MOST 1048576: true; the input reads as it did. -/
def labelOnceUptoRow : OpenClaim := { program := "ytfaieldafoeaiaadoor", sum := "a2bd345b31e7ce2699cc93635636e029e79632aa5e634d3f77a68e8c3535ac2c", func := "gatepost/gatepostlaw06.LabelOnce", spec := "labelOnce", inPlace := ["slices.overlaps[rune]", "internal/abi.NoEscape", "internal/reflectlite.TypeOf"], unfollowed := true, recurses := true, named := ["gatepost/fold.marks", "gatepost/fold.letters", "gatepost/fold.made", "gatepost/fold.spans"], apart := false, laid := [("gatepost/fold.spans", laid_gatepost_fold_spans), ("gatepost/fold.letters", laid_gatepost_fold_letters), ("gatepost/fold.marks", laid_gatepost_fold_marks), ("gatepost/fold.made", laid_gatepost_fold_made)], narrowed := true }
def LabelOnceUptoSaid : Prop := labelOnceUptoRow.holds Tryd.pinned (OpenSpec.upto labelOnceSpec)

/-- 'gatepostlaw06.LabelParts', WHERE WHAT IT READS IS OF BULK AT MOST 1048576: true; the input reads as it did. -/
def labelPartsUptoRow : OpenClaim := { program := "ytfaieldafoeaiaadoor", sum := "a2bd345b31e7ce2699cc93635636e029e79632aa5e634d3f77a68e8c3535ac2c", func := "gatepost/gatepostlaw06.LabelParts", spec := "labelParts", inPlace := ["slices.overlaps[rune]", "internal/abi.NoEscape", "internal/reflectlite.TypeOf", "internal/reflectlite.ValueOf", "(internal/reflectlite.Value).Type", "(internal/reflectlite.Value).IsNil", "(internal/reflectlite.Value).Elem", "(internal/reflectlite.Value).Set"], unfollowed := true, recurses := true, named := ["gatepost/fold.marks", "gatepost/fold.letters", "gatepost/fold.made", "gatepost/fold.spans", "errors.errorType"], apart := false, laid := [("errors.errorType", laid_errors_errorType), ("gatepost/fold.spans", laid_gatepost_fold_spans), ("gatepost/fold.letters", laid_gatepost_fold_letters), ("gatepost/fold.marks", laid_gatepost_fold_marks), ("gatepost/fold.made", laid_gatepost_fold_made)], narrowed := true }
def LabelPartsUptoSaid : Prop := labelPartsUptoRow.holds Tryd.pinned (OpenSpec.upto labelPartsSpec)

end Rows
end Go.Proofs.YtfaieldafoeaiaaDoor

/-
  In this text, one behind the other: RecGLift.
-/
import Derived.ArgAppend
import Derived.BigQuiet
import Derived.Carry
import Derived.ChangeMaps5
import Derived.ChangeOld
import Derived.ChangeSame
import Derived.ChangeSlices
import Derived.ChangeVars
import Derived.Deep.AppendLies
import Derived.Deep.DrawnRows
import Derived.Deep.Light
import Derived.Deep.LoopGhost
import Derived.Deep.QuietTactic
import Derived.Deep.RegionHeld3
import Derived.Deep.RegionWith
import Derived.Deep.WholeRow
import Derived.DeepKeys
import Derived.IntWalk
import Derived.JoinedOf
import Derived.LaidEql
import Derived.Laws.AppendOwnNone
import Derived.Laws.Bits64b
import Derived.Laws.BitsAllLaws
import Derived.Laws.BitsLemmas
import Derived.Laws.Cover4
import Derived.Laws.Externs
import Derived.Laws.IdiomStrings
import Derived.Laws.RangeString
import Derived.Laws.Rows
import Derived.Laws.Runes
import Derived.Laws.Tables
import Derived.Lay
import Derived.Lib.Bytealg
import Derived.Lib.Hide
import Derived.Lib.IndexBytes
import Derived.Lib.IndexMore
import Derived.Lib.Join
import Derived.Lib.LaidU8
import Derived.Lib.ParseIntB
import Derived.Lib.SliceRun
import Derived.Maps.AppendAt
import Derived.OpenShut
import Derived.ProofKit
import Derived.RowKit
import Derived.RowKitTokens
import Derived.Shelf.Spec.TrailingZeros
import Derived.Shelf.Strconv.Itoa3
import Derived.Shelf.Strings.Builder1
import Derived.Shelf.Strings.OnBuilder
import Derived.ShutString
import Derived.SliceStrings
import Derived.Stop.Asserts
import Derived.WalkKit
import Derived.WalkLawsBesides
import Derived.WalkMore
import Derived.WalkSpells
import Derived.WideKeyPair
import Derived.Test.YtliklhldlofnjaaDoorRows
import Derived.Test.YtliklhldlofnjaaDoorG34
import Derived.Test.YtliklhldlofnjaaDoorG38
/-
  From a tied card's conditions to what the walks of layer 12 ask: two tables of the library's (written by mkrecg.py).
-/
namespace Go.Proofs.YtliklhldlofnjaaDoor
open Go.ChangeShapes Go.WideShapes Go.ChangeAt Go.RowKit Go.Lib

theorem Tryd.y_pow : (Tryd.prog.globals[1]?).map (·.type) = some 80 := by kernel_rfl
theorem Tryd.c_u64 : Tryd.prog.cellsOf 72 = 1 := by kernel_rfl
theorem Tryd.c_pow : Tryd.prog.cellsOf 80 = 20 := by kernel_rfl
theorem laid_pow_eq : (Rows.laid_internal_strconv_uint64pow10 : DataW Unit) = tabData .u64 pow10Tab := by kernel_rfl
theorem pow_of_reads {w : World} (h : VarReads Tryd.prog w "internal/strconv.uint64pow10" Rows.laid_internal_strconv_uint64pow10) : Pow w := by
  obtain ⟨g, t, cs, fuel, p, hg, hty, hvar, hd⟩ := h
  obtain rfl := Option.some.inj (Tryd.n_pow.symm.trans hg)
  obtain rfl := Option.some.inj (Tryd.y_pow.symm.trans hty)
  rw [laid_pow_eq] at hd
  show w.var? _ _ = _
  rw [hvar, ← cells_of_tab Tryd.underlying80 Tryd.underlying72 Tryd.c_u64 Tryd.c_pow hd]
theorem Tryd.n_deb : Tryd.prog.globalNamed "math/bits.deBruijn64tab" = some 3 := by kernel_rfl
theorem Tryd.y_deb : (Tryd.prog.globals[3]?).map (·.type) = some 87 := by kernel_rfl
theorem Tryd.c_u8 : Tryd.prog.cellsOf 5 = 1 := by kernel_rfl
theorem Tryd.c_deb : Tryd.prog.cellsOf 87 = 64 := by kernel_rfl
def debTab : List Int := Lib.deBruijn64tab.map fun n : Nat => (n : Int)
theorem laid_deb_eq : (Rows.laid_math_bits_deBruijn64tab : DataW Unit) = tabData .u8 debTab := by kernel_rfl
theorem tz_of_reads {w : World} (h : VarReads Tryd.prog w "math/bits.deBruijn64tab" Rows.laid_math_bits_deBruijn64tab) : TabAt 3 Lib.deBruijn64tab w := by
  have ht : Lib.TabIs Tryd.prog w "math/bits.deBruijn64tab" .u8 debTab := by
    obtain ⟨g, t, cs, fuel, p, hg, hty, hvar, hd⟩ := h
    obtain rfl := Option.some.inj (Tryd.n_deb.symm.trans hg)
    obtain rfl := Option.some.inj (Tryd.y_deb.symm.trans hty)
    rw [laid_deb_eq] at hd
    show w.var? _ _ = _
    rw [hvar, ← cells_of_tab Tryd.underlying87 Tryd.underlying5 Tryd.c_u8 Tryd.c_deb hd]
  intro j hj
  have h2 := ht.cell Tryd.n_deb j (by unfold debTab; rw [List.length_map]; exact hj)
  rw [h2]
  congr 2
  unfold debTab
  rw [List.getD_eq_getElem?_getD, List.getD_eq_getElem?_getD, List.getElem?_map, List.getElem?_eq_getElem hj]
  rfl
def laid12 : List (String × DataW Unit) := [("math/bits.deBruijn32tab", Rows.laid_math_bits_deBruijn32tab), ("math/bits.deBruijn64tab", Rows.laid_math_bits_deBruijn64tab), ("internal/strconv.uint64pow10", Rows.laid_internal_strconv_uint64pow10)]
theorem both_of_met12 {W : World} (h : laidMet Tryd.prog laid12 W) : Pow W ∧ V8 W := ⟨pow_of_reads (laidMet.reads h (.tail _ (.tail _ (.head _)))), ⟨tz_of_reads (laidMet.reads h (.tail _ (.head _)))⟩⟩
theorem both_of_laid12 {W : World} (h : laidMetH Tryd.prog laid12 W) : Pow W ∧ V8 W := both_of_met12 h
noncomputable def world12 (os : Os) : World := World.laidAll Tryd.prog os laid12
theorem world12_met (os : Os) (args : Array Value) : laidMetH Tryd.prog laid12 ((world12 os).forCall (fun _ _ => 0) ⟨#[], args, []⟩).memory :=
  laidMet_laidAll args (by kernel_rfl) (by kernel_rfl)
end Go.Proofs.YtliklhldlofnjaaDoor

/-
  In this text, one behind the other: Lift, DLift, ZLift.
-/
import Derived.ProofKit
import Derived.OpenShut
import Derived.ShutString
import Derived.ChangeSame
import Derived.ChangeVars
import Derived.ChangeOld
import Derived.ChangeSlices
import Derived.ChangeMaps5
import Derived.Carry
import Derived.JoinedOf
import Derived.RowKit
import Derived.RowKitTokens
import Derived.LaidLaws
import Derived.LaidHandle
import Derived.SliceStrings
import Derived.Stop.Joined
import Derived.Lib.LaidU8
import Derived.Lay
import Derived.Test.YtbdedjokahopmaaDoorG1
import Derived.Test.YtbdedjokahopmaaDoorG3
import Derived.Test.YtbdedjokahopmaaDoorG2
/-
  From the rows' conditions to what the walks ask: a slice of runes opened.
-/
namespace Go.Proofs.YtbdedjokahopmaaDoor
open Go.ChangeShapes Go.WideShapes Go.ChangeAt Go.RowKit

theorem Tryd.own : ownKnob Tryd.prog.godebug = none := by kernel_rfl
theorem Tryd.laidOut : laidOutB Tryd.prog = true := by kernel_rfl

end Go.Proofs.YtbdedjokahopmaaDoor

/-
  From a tied card's conditions to what the walks ask: the listed variable's cell; a world that meets the list.
-/
namespace Go.Proofs.YtbdedjokahopmaaDoor
open Go.ChangeShapes Go.WideShapes Go.ChangeAt Go.RowKit

theorem Tryd.et : Tryd.prog.globalNamed "errors.errorType" = some 0 := by kernel_rfl
theorem Tryd.oneRow : ((List.range 152).filter fun t => Tryd.prog.rowNamed t [101, 114, 114, 111, 114]) = [25] := by kernel_rfl
theorem Tryd.size : Tryd.prog.types.size = 152 := by kernel_rfl

def laidList : List (String × DataW Unit) := [("errors.errorType", Rows.laid_errors_errorType)]

theorem ready_of_laid {W : World} (h : laidMetH Tryd.prog laidList W) : Ready W := by
  have h' : laidMet Tryd.prog [] W ∧ handlesMet Tryd.prog laidList W := h
  obtain ⟨name, u, ty, e1, e2, e3, e4, e5⟩ := h'.2 _ (List.mem_singleton.2 rfl)
  have en : name = [101, 114, 114, 111, 114] := (Option.some.inj e1).symm
  subst en
  have e6 := e2.symm.trans (show _ = some 68 by kernel_rfl)
  obtain rfl := Option.some.inj e6
  have hm : ty ∈ (List.range 152).filter fun t => Tryd.prog.rowNamed t [101, 114, 114, 111, 114] := List.mem_filter.2 ⟨List.mem_range.2 (by rw [← Tryd.size]; exact e3), e4⟩
  rw [Tryd.oneRow] at hm
  obtain rfl := List.mem_singleton.1 hm
  have hh : typeHandle Tryd.prog 25 = .pointer (some ⟨7, 25, none⟩) := by kernel_rfl
  rw [hh] at e5
  unfold Ready
  simpa using World.var?_cell Tryd.et e5 0

/-- A world that meets the list: the settled one, the variable's cell laid. -/
noncomputable def laidWorld (os : Os) : World :=
  { World.holding Tryd.prog os ⟨#[], #[], []⟩ with heap := (World.holding Tryd.prog os ⟨#[], #[], []⟩).heap.modify 0 fun
      | .cells _ t frozen => .cells #[.iface 68 (.agg #[.pointer (some ⟨7, 25, none⟩)])] t frozen
      | o => o }
theorem laidWorld_met (os : Os) (args : Array Value) : laidMetH Tryd.prog laidList ((laidWorld os).forCall (fun _ _ => 0) ⟨#[], args, []⟩).memory :=
  laidMetH_of_parts (laidMet_nil _ _) (by kernel_rfl)

end Go.Proofs.YtbdedjokahopmaaDoor

/-
  From a tied card's conditions to what the walks of layer 7 ask: the table of the powers of ten; worlds that meet the lists.
-/
namespace Go.Proofs.YtbdedjokahopmaaDoor
open Go.ChangeShapes Go.WideShapes Go.ChangeAt Go.RowKit Go.Lib

theorem Tryd.y_pow : (Tryd.prog.globals[2]?).map (·.type) = some 110 := by kernel_rfl
theorem Tryd.c_u64 : Tryd.prog.cellsOf 42 = 1 := by kernel_rfl
theorem Tryd.c_pow : Tryd.prog.cellsOf 110 = 20 := by kernel_rfl
theorem laid_pow_eq : (Rows.laid_internal_strconv_uint64pow10 : DataW Unit) = tabData .u64 pow10Tab := by kernel_rfl
theorem pow_of_reads {w : World} (h : VarReads Tryd.prog w "internal/strconv.uint64pow10" Rows.laid_internal_strconv_uint64pow10) : Pow w := by
  obtain ⟨g, t, cs, fuel, p, hg, hty, hvar, hd⟩ := h
  obtain rfl := Option.some.inj (Tryd.n_pow.symm.trans hg)
  obtain rfl := Option.some.inj (Tryd.y_pow.symm.trans hty)
  rw [laid_pow_eq] at hd
  show w.var? _ _ = _
  rw [hvar, ← cells_of_tab Tryd.underlying110 Tryd.underlying42 Tryd.c_u64 Tryd.c_pow hd]

def laidPlain : List (String × DataW Unit) := [("math/bits.deBruijn32tab", Rows.laid_math_bits_deBruijn32tab), ("math/bits.deBruijn64tab", Rows.laid_math_bits_deBruijn64tab), ("internal/strconv.uint64pow10", Rows.laid_internal_strconv_uint64pow10), ("unicode/utf8.acceptRanges", Rows.laid_unicode_utf8_acceptRanges), ("unicode/utf8.first", Rows.laid_unicode_utf8_first)]
theorem pow_of_met {W : World} (h : laidMet Tryd.prog laidPlain W) : Pow W := pow_of_reads (laidMet.reads h (.tail _ (.tail _ (.head _))))
theorem pow_of_laid {W : World} (h : laidMetH Tryd.prog laidPlain W) : Pow W := pow_of_met h
noncomputable def plainWorld (os : Os) : World := World.laidAll Tryd.prog os laidPlain
theorem plainWorld_met (os : Os) (args : Array Value) : laidMetH Tryd.prog laidPlain ((plainWorld os).forCall (fun _ _ => 0) ⟨#[], args, []⟩).memory :=
  laidMet_laidAll args (by kernel_rfl) (by kernel_rfl)

def laidDoor : List (String × DataW Unit) := [("math/bits.deBruijn32tab", Rows.laid_math_bits_deBruijn32tab), ("math/bits.deBruijn64tab", Rows.laid_math_bits_deBruijn64tab), ("internal/strconv.uint64pow10", Rows.laid_internal_strconv_uint64pow10), ("unicode/utf8.acceptRanges", Rows.laid_unicode_utf8_acceptRanges), ("errors.errorType", Rows.laid_errors_errorType), ("unicode/utf8.first", Rows.laid_unicode_utf8_first)]
theorem both_of_laid {W : World} (h : laidMetH Tryd.prog laidDoor W) : Ready W ∧ Pow W := by
  have h' : laidMet Tryd.prog laidPlain W ∧ handlesMet Tryd.prog laidList W := h
  exact ⟨ready_of_laid (show laidMetH Tryd.prog laidList W from ⟨laidMet_nil _ _, h'.2⟩), pow_of_met h'.1⟩
noncomputable def doorWorld (os : Os) : World := (laidWorld os).layVars Tryd.prog laidPlain
theorem doorWorld_plain (os : Os) (args : Array Value) : laidMet Tryd.prog laidPlain ((doorWorld os).forCall (fun _ _ => 0) ⟨#[], args, []⟩).memory := by
  have e1 : (laidPlain.filter fun x => (laidPlain.map (·.1)).contains x.1) = laidPlain := List.filter_eq_self.2 fun x hx => List.contains_iff_mem.2 (List.mem_map.2 ⟨x, hx, rfl⟩)
  have e2 : (laidPlain.filter fun x => !(laidPlain.map (·.1)).contains x.1) = [] := List.filter_eq_nil_iff.2 fun x hx => by rw [List.contains_iff_mem.2 (List.mem_map.2 ⟨x, hx, rfl⟩)]; simp
  have h : laidMet Tryd.prog laidPlain (doorWorld os) := laidMet_layVars (w0 := laidWorld os) (laidPlain.map (·.1)) [] (by rw [e1]; rfl) (by rw [e1]; kernel_rfl) (by rw [e1]; kernel_rfl) (by rw [e2]; exact LaidIn.none)
  exact h.of_heap (by simp [World.memory, World.forCall, Input.heap])
theorem doorWorld_met (os : Os) (args : Array Value) : laidMetH Tryd.prog laidDoor ((doorWorld os).forCall (fun _ _ => 0) ⟨#[], args, []⟩).memory :=
  laidMetH_of_parts (show laidMet Tryd.prog laidPlain _ from doorWorld_plain os args) (by kernel_rfl)
end Go.Proofs.YtbdedjokahopmaaDoor

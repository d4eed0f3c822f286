/-
  From a tied card's conditions to what the walks of layer 10 ask, where errors.errorType is listed too.
-/
import Derived.Test.YtcndcdkcbkjbaaaDoorSchGLift
import Derived.Test.YtcndcdkcbkjbaaaDoorDLift
namespace Go.Proofs.YtcndcdkcbkjbaaaDoor
open Go.ChangeShapes Go.WideShapes Go.ChangeAt Go.RowKit Go.Lib

def laidDoor10 : List (String × DataW Unit) := [("unicode/utf8.acceptRanges", Rows.laid_unicode_utf8_acceptRanges), ("errors.errorType", Rows.laid_errors_errorType), ("unicode.CaseRanges", Rows.laid_unicode_CaseRanges), ("unicode/utf8.first", Rows.laid_unicode_utf8_first)]
theorem both10_of_laid {W : World} (h : laidMetH Tryd.prog laidDoor10 W) (hs : W.ShapedOpen Tryd.prog) : Ready W ∧ Mx10 W := by
  have h' : laidMet Tryd.prog laidPlain10 W ∧ handlesMet Tryd.prog laidList W := h
  exact ⟨ready_of_laid (show laidMetH Tryd.prog laidList W from ⟨laidMet_nil _ _, h'.2⟩), mx_of_shape10 hs⟩
noncomputable def doorWorld10 (os : Os) : World := (laidWorld os).layVars Tryd.prog laidPlain10
theorem doorWorld10_plain (os : Os) (args : Array Value) : laidMet Tryd.prog laidPlain10 ((doorWorld10 os).forCall (fun _ _ => 0) ⟨#[], args, []⟩).memory := by
  have e1 : (laidPlain10.filter fun x => (laidPlain10.map (·.1)).contains x.1) = laidPlain10 := List.filter_eq_self.2 fun x hx => List.contains_iff_mem.2 (List.mem_map.2 ⟨x, hx, rfl⟩)
  have e2 : (laidPlain10.filter fun x => !(laidPlain10.map (·.1)).contains x.1) = [] := List.filter_eq_nil_iff.2 fun x hx => by rw [List.contains_iff_mem.2 (List.mem_map.2 ⟨x, hx, rfl⟩)]; simp
  have h : laidMet Tryd.prog laidPlain10 (doorWorld10 os) := laidMet_layVars (w0 := laidWorld os) (laidPlain10.map (·.1)) [] (by rw [e1]; rfl) (by rw [e1]; kernel_rfl) (by rw [e1]; kernel_rfl) (by rw [e2]; exact LaidIn.none)
  exact h.of_heap (by simp [World.memory, World.forCall, Input.heap])
theorem doorWorld10_met (os : Os) (args : Array Value) : laidMetH Tryd.prog laidDoor10 ((doorWorld10 os).forCall (fun _ _ => 0) ⟨#[], args, []⟩).memory :=
  laidMetH_of_parts (show laidMet Tryd.prog laidPlain10 _ from doorWorld10_plain os args) (by kernel_rfl)
end Go.Proofs.YtcndcdkcbkjbaaaDoor

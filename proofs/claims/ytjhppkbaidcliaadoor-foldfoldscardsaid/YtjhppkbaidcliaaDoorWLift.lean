/-
  From a tied card's conditions to what the walks ask, where errors.errorType is listed too.
-/
import Derived.Test.YtjhppkbaidcliaaDoorVLift
import Derived.Test.YtjhppkbaidcliaaDoorDLift
namespace Go.Proofs.YtjhppkbaidcliaaDoor
open Go.ChangeShapes Go.WideShapes Go.ChangeAt Go.RowKit Go.Lib

def laidFive : List (String × DataW Unit) := ("errors.errorType", Rows.laid_errors_errorType) :: laidFour
theorem ready_of_five {W : World} (h : laidMetH Tryd.prog laidFive W) : Ready W ∧ Vars W := by
  have h' : laidMet Tryd.prog laidFour W ∧ handlesMet Tryd.prog laidList W := h
  refine ⟨ready_of_laid (show laidMetH Tryd.prog laidList W from ⟨laidMet_nil _ _, h'.2⟩), vars_of_met h'.1⟩
/-- A world that meets the list: the handle's cell laid, then the tables. -/
noncomputable def fiveWorld (os : Os) : World := (laidWorld os).layVars Tryd.prog laidFour
theorem fiveWorld_four (os : Os) (args : Array Value) : laidMet Tryd.prog laidFour ((fiveWorld os).forCall (fun _ _ => 0) ⟨#[], args, []⟩).memory := by
  have e1 : (laidFour.filter fun x => (laidFour.map (·.1)).contains x.1) = laidFour := List.filter_eq_self.2 fun x hx => List.contains_iff_mem.2 (List.mem_map.2 ⟨x, hx, rfl⟩)
  have e2 : (laidFour.filter fun x => !(laidFour.map (·.1)).contains x.1) = [] := List.filter_eq_nil_iff.2 fun x hx => by rw [List.contains_iff_mem.2 (List.mem_map.2 ⟨x, hx, rfl⟩)]; simp
  have h : laidMet Tryd.prog laidFour (fiveWorld os) := laidMet_layVars (w0 := laidWorld os) (laidFour.map (·.1)) [] (by rw [e1]; rfl) (by rw [e1]; kernel_rfl) (by rw [e1]; kernel_rfl) (by rw [e2]; exact LaidIn.none)
  exact h.of_heap (by simp [World.memory, World.forCall, Input.heap])
theorem fiveWorld_met (os : Os) (args : Array Value) : laidMetH Tryd.prog laidFive ((fiveWorld os).forCall (fun _ _ => 0) ⟨#[], args, []⟩).memory :=
  laidMetH_of_parts (show laidMet Tryd.prog laidFour _ from fiveWorld_four os args) (by kernel_rfl)
end Go.Proofs.YtjhppkbaidcliaaDoor

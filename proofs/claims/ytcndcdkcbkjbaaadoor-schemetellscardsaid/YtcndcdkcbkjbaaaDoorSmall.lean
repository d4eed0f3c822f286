/-
  The small functions of package utf and of the document's answers of layer 2, by their contracts.
-/
import Derived.Test.YtcndcdkcbkjbaaaDoorRows
import Derived.Test.YtcndcdkcbkjbaaaDoorMath
import Derived.WalkKit
import Derived.WalkSpells
import Derived.WalkLawsBesides
import Derived.Lib.Hide
import Derived.Deep.QuietTactic
import Derived.BigQuiet
import Derived.Deep.Light
import Derived.Maps.AppendAt
namespace Go.Proofs.YtcndcdkcbkjbaaaDoor
open Go.RowKit

theorem ret_bool {a b : Bool} (h : a = b) : Ending.returned (.bool a) = .returned (.bool b) := by rw [h]
theorem ret_int {k : IntKind} {a b : Int} (h : a = b) : Ending.returned (.int k a) = .returned (.int k b) := by rw [h]

theorem bcell {W w1 : World} (hb : Below W.heap.size W w1) : (∀ b o, b < W.heap.size → w1.cell? ⟨b, o, none⟩ = W.cell? ⟨b, o, none⟩) ∧ (∀ b o, b < W.heap.size → w1.frozen? ⟨b, o, none⟩ = W.frozen? ⟨b, o, none⟩) :=
  ⟨fun b o h => hb.cell (p := ⟨b, o, none⟩) h, fun b o h => hb.frozen (p := ⟨b, o, none⟩) h⟩

theorem lo1 {a : Int} (h : ¬ a = 224) (h2 : ¬ a = 240) : lo a 1 = 128 := by unfold lo; rw [if_neg (by omega), if_neg (by omega)]
theorem hi1 {a : Int} (h : ¬ a = 237) (h2 : ¬ a = 244) : hi a 1 = 191 := by unfold hi; rw [if_neg (by omega), if_neg (by omega)]

/-- What the first byte says of the scalar. -/
def leadBits (a : Int) : Int := if lensOf a = 0 then 65533 else headBits a (lensOf a)

end Go.Proofs.YtcndcdkcbkjbaaaDoor

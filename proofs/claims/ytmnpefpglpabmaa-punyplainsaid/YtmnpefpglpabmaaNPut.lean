/-
  The document's put: a list with a code point at a place.
-/
import Derived.Test.YtmnpefpglpabmaaNTell
import Derived.Test.YtmnpefpglpabmaaApp
namespace Go.Proofs.Ytmnpefpglpabmaa
open Go.RowKit

theorem ints_ins (l : List Nat) (p n : Nat) : ints (ins l p n) = (ints l).take p ++ [(n : Int)] ++ (ints l).drop p := by
  simp [ints, ins, List.map_take, List.map_drop]

def PutPost (l : List Int) (w : World) (e : Ending) (w' : World) : Prop := ∃ v, e = .returned v ∧ Made w w' v l

end Go.Proofs.Ytmnpefpglpabmaa

/-
  In this text, one behind the other: SchRef.
-/
import Derived.BigQuiet
import Derived.Deep.Light
import Derived.Deep.QuietTactic
import Derived.IntWalk
import Derived.Laws.BitsLemmas
import Derived.Laws.Cover4
import Derived.Lib.Hide
import Derived.Maps.AppendAt
import Derived.WalkKit
import Derived.WalkLawsBesides
import Derived.WalkSpells
import Derived.Test.YtliklhldlofnjaaDoorRows
import Derived.Test.YtliklhldlofnjaaDoorG1
import Derived.Test.YtliklhldlofnjaaDoorG3
/-
  The document's Default, Special and May of layer 10, by their contracts (written by mkschref.py).
-/
namespace Go.Proofs.YtliklhldlofnjaaDoor
open Go.RowKit

def txt10 (l : List UInt8) : ByteArray := ⟨l.toArray⟩
theorem txt10_list (l : List UInt8) : (txt10 l).data.toList = l := rfl
theorem txt10_size (l : List UInt8) : (txt10 l).size = l.length := by show l.toArray.size = _; simp
theorem len10 (s : ByteArray) : s.data.toList.length = s.size := by simp
end Go.Proofs.YtliklhldlofnjaaDoor

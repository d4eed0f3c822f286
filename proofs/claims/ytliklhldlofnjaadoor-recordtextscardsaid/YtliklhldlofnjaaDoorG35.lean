/-
  In this text, one behind the other: Lift.
-/
import Derived.BigQuiet
import Derived.Carry
import Derived.ChangeMaps5
import Derived.ChangeOld
import Derived.ChangeSame
import Derived.ChangeSlices
import Derived.ChangeVars
import Derived.Deep.Light
import Derived.Deep.QuietTactic
import Derived.JoinedOf
import Derived.Laws.BitsLemmas
import Derived.Laws.Cover4
import Derived.Lib.Hide
import Derived.Maps.AppendAt
import Derived.OpenShut
import Derived.ProofKit
import Derived.RowKit
import Derived.ShutString
import Derived.WalkKit
import Derived.WalkLawsBesides
import Derived.WalkSpells
import Derived.Test.YtliklhldlofnjaaDoorRows
import Derived.Test.YtliklhldlofnjaaDoorG3
/-
  From the rows' conditions to what the walks ask: a slice of runes opened.
-/
namespace Go.Proofs.YtliklhldlofnjaaDoor
open Go.ChangeShapes Go.WideShapes Go.ChangeAt Go.RowKit

theorem Tryd.own : ownKnob Tryd.prog.godebug = none := by kernel_rfl
theorem Tryd.laidOut : laidOutB Tryd.prog = true := by kernel_rfl

end Go.Proofs.YtliklhldlofnjaaDoor

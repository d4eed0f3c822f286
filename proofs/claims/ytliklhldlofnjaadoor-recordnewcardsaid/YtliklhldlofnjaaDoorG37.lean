/-
  In this text, one behind the other: RLift.
-/
import Derived.BigQuiet
import Derived.Carry
import Derived.ChangeMaps5
import Derived.ChangeOld
import Derived.ChangeSame
import Derived.ChangeSlices
import Derived.ChangeVars
import Derived.Deep.AppendLies
import Derived.Deep.Light
import Derived.Deep.LoopGhost
import Derived.Deep.QuietTactic
import Derived.Deep.RegionHeld3
import Derived.Deep.RegionWith
import Derived.IntWalk
import Derived.JoinedOf
import Derived.LaidEql
import Derived.Laws.AppendOwnNone
import Derived.Laws.BitsLemmas
import Derived.Laws.Cover4
import Derived.Lib.Hide
import Derived.Maps.AppendAt
import Derived.OpenShut
import Derived.ProofKit
import Derived.RowKit
import Derived.RowKitTokens
import Derived.ShutString
import Derived.SliceStrings
import Derived.Stop.Asserts
import Derived.WalkKit
import Derived.WalkLawsBesides
import Derived.WalkSpells
import Derived.WideKeyPair
import Derived.Test.YtliklhldlofnjaaDoorRows
import Derived.Test.YtliklhldlofnjaaDoorG6
import Derived.Test.YtliklhldlofnjaaDoorG9
import Derived.Test.YtliklhldlofnjaaDoorG35
import Derived.Test.YtliklhldlofnjaaDoorG36
/-
  A URL as a law's argument, opened: its texts, its numbers, its path as segments (by mkrlift.py).
-/
namespace Go.Proofs.YtliklhldlofnjaaDoor
open Go.ChangeShapes Go.WideShapes Go.ChangeAt Go.RowKit

theorem r_bool : Tryd.prog.cellsOf 4 = 1 := by kernel_rfl
theorem r_strs : Tryd.prog.cellsOf 27 = 1 := by kernel_rfl
end Go.Proofs.YtliklhldlofnjaaDoor

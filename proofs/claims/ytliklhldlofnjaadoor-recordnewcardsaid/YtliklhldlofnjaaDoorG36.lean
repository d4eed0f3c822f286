/-
  In this text, one behind the other: GLift.
-/
import Derived.BigQuiet
import Derived.Carry
import Derived.ChangeMaps5
import Derived.ChangeOld
import Derived.ChangeSame
import Derived.ChangeSlices
import Derived.ChangeVars
import Derived.Deep.Light
import Derived.Deep.QuietTactic
import Derived.JoinedOf
import Derived.Laws.BitsLemmas
import Derived.Laws.Cover4
import Derived.Lib.Hide
import Derived.Maps.AppendAt
import Derived.OpenShut
import Derived.ProofKit
import Derived.RowKit
import Derived.ShutString
import Derived.WalkKit
import Derived.WalkLawsBesides
import Derived.WalkSpells
import Derived.WideKeyPair
import Derived.Test.YtliklhldlofnjaaDoorRows
import Derived.Test.YtliklhldlofnjaaDoorG35
/-
  A host as a law's argument: opened and shut.
-/
namespace Go.Proofs.YtliklhldlofnjaaDoor
open Go.ChangeShapes Go.WideShapes Go.ChangeAt Go.RowKit

theorem g_host : Tryd.prog.cellsOf 26 = 11 := by kernel_rfl
theorem g_int : Tryd.prog.cellsOf 3 = 1 := by kernel_rfl
theorem g_str : Tryd.prog.cellsOf 9 = 1 := by kernel_rfl
theorem g_u32 : Tryd.prog.cellsOf 22 = 1 := by kernel_rfl
end Go.Proofs.YtliklhldlofnjaaDoor

/-
  In this text, one behind the other: YSame.
-/
import Derived.BigQuiet
import Derived.Deep.AppendLies
import Derived.Deep.Light
import Derived.Deep.QuietTactic
import Derived.Deep.RegionHeld3
import Derived.Deep.RegionWith
import Derived.DeepKeys
import Derived.IntWalk
import Derived.LaidEql
import Derived.Laws.BitsLemmas
import Derived.Laws.Cover4
import Derived.Lib.Hide
import Derived.Maps.AppendAt
import Derived.RowKitTokens
import Derived.Stop.Asserts
import Derived.WalkKit
import Derived.WalkLawsBesides
import Derived.WalkSpells
import Derived.Test.YtliklhldlofnjaaDoorRows
import Derived.Test.YtliklhldlofnjaaDoorG8
/-
  Two arrays of eight letters, held against each other.
-/
namespace Go.Proofs.YtliklhldlofnjaaDoor
open Go.RowKit

theorem c8_one : Tryd.prog.cellsOf 23 = 1 := by kernel_rfl
theorem c8_all : Tryd.prog.cellsOf 24 = 8 := by kernel_rfl
def L16 (n : Int) : Prop := 0 ≤ n ∧ n ≤ 65535
theorem lit8_one {n : Int} (h : L16 n) : Tryd.prog.keyLits 1 23 [.int .u16 n] = some [.int .u16 n] := by
  have hw : (Lit.int .u16 n).wf = true := by
    have h1 := h.1
    have h2 := h.2
    have e1 : IntKind.u16.min = 0 := rfl
    have e2 : IntKind.u16.max = 65535 := rfl
    simp [Lit.wf, e1, e2]
    omega
  simp [Program.keyLits, Tryd.underlying23, hw]
theorem lits8 (a0 a1 a2 a3 a4 a5 a6 a7 : Int) (ha0 : L16 a0) (ha1 : L16 a1) (ha2 : L16 a2) (ha3 : L16 a3) (ha4 : L16 a4) (ha5 : L16 a5) (ha6 : L16 a6) (ha7 : L16 a7) : Tryd.prog.keyLits 2 24 [.int .u16 a0, .int .u16 a1, .int .u16 a2, .int .u16 a3, .int .u16 a4, .int .u16 a5, .int .u16 a6, .int .u16 a7] = some [.int .u16 a0, .int .u16 a1, .int .u16 a2, .int .u16 a3, .int .u16 a4, .int .u16 a5, .int .u16 a6, .int .u16 a7] := by
  unfold Program.keyLits
  simp only [Tryd.underlying24, c8_one, c8_all, List.length_cons, List.length_nil]
  rw [if_pos trivial, show List.range 8 = [0, 1, 2, 3, 4, 5, 6, 7] from rfl]
  simp only [List.mapM_cons, List.mapM_nil, Nat.mul_one, List.drop_zero, List.drop_succ_cons, List.take_succ_cons, List.take_zero, lit8_one ha0, lit8_one ha1, lit8_one ha2, lit8_one ha3, lit8_one ha4, lit8_one ha5, lit8_one ha6, lit8_one ha7]
  rfl
end Go.Proofs.YtliklhldlofnjaaDoor

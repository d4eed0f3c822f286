/-
  In this text, one behind the other: GSame.
-/
import Derived.BigQuiet
import Derived.Deep.AppendLies
import Derived.Deep.DrawnRows
import Derived.Deep.Light
import Derived.Deep.LoopGhost
import Derived.Deep.QuietTactic
import Derived.Deep.RegionHeld3
import Derived.Deep.RegionWith
import Derived.DeepKeys
import Derived.IntWalk
import Derived.LaidEql
import Derived.Laws.AppendOwnNone
import Derived.Laws.BitsLemmas
import Derived.Laws.Cover4
import Derived.Laws.Externs
import Derived.Laws.RangeString
import Derived.Laws.Runes
import Derived.Lib.Hide
import Derived.Maps.AppendAt
import Derived.RowKitTokens
import Derived.Shelf.Strings.Builder1
import Derived.Stop.Asserts
import Derived.WalkKit
import Derived.WalkLawsBesides
import Derived.WalkMore
import Derived.WalkSpells
import Derived.Test.YtliklhldlofnjaaDoorRows
import Derived.Test.YtliklhldlofnjaaDoorG1
import Derived.Test.YtliklhldlofnjaaDoorG3
import Derived.Test.YtliklhldlofnjaaDoorG5
import Derived.Test.YtliklhldlofnjaaDoorG7
import Derived.Test.YtliklhldlofnjaaDoorG8
import Derived.Test.YtliklhldlofnjaaDoorG9
import Derived.Test.YtliklhldlofnjaaDoorG26
import Derived.Test.YtliklhldlofnjaaDoorG30
/-
  Two hosts, held against each other.
-/
namespace Go.Proofs.YtliklhldlofnjaaDoor
open Go.RowKit

theorem key9 : Tryd.prog.keyTypeAt 3 26 = true := by kernel_rfl
theorem c9_all : Tryd.prog.cellsOf 26 = 11 := by kernel_rfl
theorem c9_int : Tryd.prog.cellsOf 3 = 1 := by kernel_rfl
theorem c9_str : Tryd.prog.cellsOf 9 = 1 := by kernel_rfl
theorem c9_u32 : Tryd.prog.cellsOf 22 = 1 := by kernel_rfl
def L64 (n : Int) : Prop := -9223372036854775808 ≤ n ∧ n ≤ 9223372036854775807
def L32 (n : Int) : Prop := 0 ≤ n ∧ n ≤ 4294967295
theorem lit9_int {n : Int} (h : L64 n) : Tryd.prog.keyLits 2 3 [.int .i64 n] = some [.int .i64 n] := by
  have hw : (Lit.int .i64 n).wf = true := by
    have h1 := h.1
    have h2 := h.2
    have e1 : IntKind.i64.min = -9223372036854775808 := rfl
    have e2 : IntKind.i64.max = 9223372036854775807 := rfl
    simp [Lit.wf, e1, e2]
    omega
  simp [Program.keyLits, Tryd.underlying3, hw]
theorem lit9_u32 {n : Int} (h : L32 n) : Tryd.prog.keyLits 2 22 [.int .u32 n] = some [.int .u32 n] := by
  have hw : (Lit.int .u32 n).wf = true := by
    have h1 := h.1
    have h2 := h.2
    have e1 : IntKind.u32.min = 0 := rfl
    have e2 : IntKind.u32.max = 4294967295 := rfl
    simp [Lit.wf, e1, e2]
    omega
  simp [Program.keyLits, Tryd.underlying22, hw]
theorem lit9_str {s : ByteArray} (h : s.size ≤ 100000) : Tryd.prog.keyLits 2 9 [.string s] = some [.string s.data.toList] := by
  have hm : s.size ≤ maxLen := by simp only [maxLen]; omega
  simp [Program.keyLits, Tryd.underlying9, hm]
set_option maxRecDepth 100000 in
theorem lits9 (k : Int) (n : ByteArray) (v a0 a1 a2 a3 a4 a5 a6 a7 : Int) (hk : L64 k) (hn : n.size ≤ 100000) (hv : L32 v) (ha0 : L16 a0) (ha1 : L16 a1) (ha2 : L16 a2) (ha3 : L16 a3) (ha4 : L16 a4) (ha5 : L16 a5) (ha6 : L16 a6) (ha7 : L16 a7) : Tryd.prog.keyLits 3 26 [.int .i64 k, .string n, .int .u32 v, .int .u16 a0, .int .u16 a1, .int .u16 a2, .int .u16 a3, .int .u16 a4, .int .u16 a5, .int .u16 a6, .int .u16 a7] = some [.int .i64 k, .string n.data.toList, .int .u32 v, .int .u16 a0, .int .u16 a1, .int .u16 a2, .int .u16 a3, .int .u16 a4, .int .u16 a5, .int .u16 a6, .int .u16 a7] := by
  unfold Program.keyLits
  simp only [Tryd.underlying26, c9_all, List.length_cons, List.length_nil]
  rw [if_pos ⟨trivial, by decide +kernel⟩]
  simp only [List.mapM_cons, List.mapM_nil, c9_int, c9_str, c9_u32, c8_all, List.drop_zero, List.drop_succ_cons, List.take_succ_cons, List.take_zero, lit9_int hk, lit9_str hn, lit9_u32 hv, lits8 a0 a1 a2 a3 a4 a5 a6 a7 ha0 ha1 ha2 ha3 ha4 ha5 ha6 ha7]
  rfl
set_option maxRecDepth 100000 in
theorem same9 (k : Int) (n : ByteArray) (v a0 a1 a2 a3 a4 a5 a6 a7 : Int) (j : Int) (m : ByteArray) (u b0 b1 b2 b3 b4 b5 b6 b7 : Int) (hk : L64 k) (hn : n.size ≤ 100000) (hv : L32 v) (ha0 : L16 a0) (ha1 : L16 a1) (ha2 : L16 a2) (ha3 : L16 a3) (ha4 : L16 a4) (ha5 : L16 a5) (ha6 : L16 a6) (ha7 : L16 a7) (hj : L64 j) (hm : m.size ≤ 100000) (hu : L32 u) (hb0 : L16 b0) (hb1 : L16 b1) (hb2 : L16 b2) (hb3 : L16 b3) (hb4 : L16 b4) (hb5 : L16 b5) (hb6 : L16 b6) (hb7 : L16 b7) (W : World) :
    Sem.run Tryd.prog (Op.equalIn 10000 26 (.agg #[.int .i64 k, .string n, .int .u32 v, .int .u16 a0, .int .u16 a1, .int .u16 a2, .int .u16 a3, .int .u16 a4, .int .u16 a5, .int .u16 a6, .int .u16 a7]) (.agg #[.int .i64 j, .string m, .int .u32 u, .int .u16 b0, .int .u16 b1, .int .u16 b2, .int .u16 b3, .int .u16 b4, .int .u16 b5, .int .u16 b6, .int .u16 b7])) W = .ok (decide (k = j ∧ n = m ∧ v = u ∧ [a0, a1, a2, a3, a4, a5, a6, a7] = [b0, b1, b2, b3, b4, b5, b6, b7])) W := by
  obtain ⟨r, h1, h2⟩ := run_equalIn_deep (P := Tryd.prog) 9997 3 26 key9 W 3 3 (.agg #[.int .i64 k, .string n, .int .u32 v, .int .u16 a0, .int .u16 a1, .int .u16 a2, .int .u16 a3, .int .u16 a4, .int .u16 a5, .int .u16 a6, .int .u16 a7]) (.agg #[.int .i64 j, .string m, .int .u32 u, .int .u16 b0, .int .u16 b1, .int .u16 b2, .int .u16 b3, .int .u16 b4, .int .u16 b5, .int .u16 b6, .int .u16 b7]) _ _ rfl rfl (lits9 k n v a0 a1 a2 a3 a4 a5 a6 a7 hk hn hv ha0 ha1 ha2 ha3 ha4 ha5 ha6 ha7) (lits9 j m u b0 b1 b2 b3 b4 b5 b6 b7 hj hm hu hb0 hb1 hb2 hb3 hb4 hb5 hb6 hb7)
  have e : r = decide (k = j ∧ n = m ∧ v = u ∧ [a0, a1, a2, a3, a4, a5, a6, a7] = [b0, b1, b2, b3, b4, b5, b6, b7]) := by
    rw [Bool.eq_iff_iff, h2, decide_eq_true_iff]
    have hnm : n.data.toList = m.data.toList ↔ n = m := ⟨fun h => by cases n; cases m; exact congrArg ByteArray.mk (Array.toList_inj.1 h), fun h => by rw [h]⟩
    simp [hnm]
  rw [← e]
  exact h1
end Go.Proofs.YtliklhldlofnjaaDoor

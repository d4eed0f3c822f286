/-
  In this text, one behind the other: RecSame.
-/
import Derived.BigQuiet
import Derived.Deep.AppendLies
import Derived.Deep.DrawnRows
import Derived.Deep.Light
import Derived.Deep.LoopGhost
import Derived.Deep.QuietTactic
import Derived.Deep.RegionHeld3
import Derived.Deep.RegionWith
import Derived.DeepKeys
import Derived.IntWalk
import Derived.LaidEql
import Derived.Laws.AppendOwnNone
import Derived.Laws.BitsLemmas
import Derived.Laws.Cover4
import Derived.Laws.Externs
import Derived.Laws.RangeString
import Derived.Laws.Rows
import Derived.Laws.Runes
import Derived.Lib.Hide
import Derived.Maps.AppendAt
import Derived.RowKitTokens
import Derived.Shelf.Strings.Builder1
import Derived.Stop.Asserts
import Derived.WalkKit
import Derived.WalkLawsBesides
import Derived.WalkMore
import Derived.WalkSpells
import Derived.Test.YtliklhldlofnjaaDoorRows
import Derived.Test.YtliklhldlofnjaaDoorG10
import Derived.Test.YtliklhldlofnjaaDoorG25
import Derived.Test.YtliklhldlofnjaaDoorG31
/-
  The document's Same of layer 12, by its contract (written by mkrec.py).
-/
namespace Go.Proofs.YtliklhldlofnjaaDoor
open Go.RowKit

def host12 (u v : Url12) : Bool := decide (u.kind = v.kind ∧ u.name = v.name ∧ (u.v4 : Int) = (v.v4 : Int) ∧ [(u.a0 : Int), (u.a1 : Int), (u.a2 : Int), (u.a3 : Int), (u.a4 : Int), (u.a5 : Int), (u.a6 : Int), (u.a7 : Int)] = [(v.a0 : Int), (v.a1 : Int), (v.a2 : Int), (v.a3 : Int), (v.a4 : Int), (v.a5 : Int), (v.a6 : Int), (v.a7 : Int)])
theorem host12_iff {u v : Url12} : host12 u v = true ↔ (u.kind = v.kind ∧ u.name = v.name ∧ u.v4 = v.v4 ∧ u.a0 = v.a0 ∧ u.a1 = v.a1 ∧ u.a2 = v.a2 ∧ u.a3 = v.a3 ∧ u.a4 = v.a4 ∧ u.a5 = v.a5 ∧ u.a6 = v.a6 ∧ u.a7 = v.a7) := by
  unfold host12
  rw [decide_eq_true_iff]
  simp only [List.cons.injEq, and_true, Int.natCast_inj]
theorem L16_of {n : Nat} (h : n < 65536) : L16 (n : Int) := ⟨by omega, by omega⟩
theorem host12_run {u v : Url12} {b : Bool} (hb : host12 u v = b) (hu : Wee12 u) (hv : Wee12 v) (W : World) : Sem.run Tryd.prog (Op.equalIn 10000 26 (.agg #[.int .i64 u.kind, .string u.name, .int .u32 (u.v4 : Int), .int .u16 (u.a0 : Int), .int .u16 (u.a1 : Int), .int .u16 (u.a2 : Int), .int .u16 (u.a3 : Int), .int .u16 (u.a4 : Int), .int .u16 (u.a5 : Int), .int .u16 (u.a6 : Int), .int .u16 (u.a7 : Int)]) (.agg #[.int .i64 v.kind, .string v.name, .int .u32 (v.v4 : Int), .int .u16 (v.a0 : Int), .int .u16 (v.a1 : Int), .int .u16 (v.a2 : Int), .int .u16 (v.a3 : Int), .int .u16 (v.a4 : Int), .int .u16 (v.a5 : Int), .int .u16 (v.a6 : Int), .int .u16 (v.a7 : Int)])) W = .ok b W := by
  have a : ∀ n ∈ u.v6, L16 (n : Int) := fun n hn => L16_of (hu.nums.v6 n hn)
  have b' : ∀ n ∈ v.v6, L16 (n : Int) := fun n hn => L16_of (hv.nums.v6 n hn)
  have h := same9 u.kind u.name (u.v4 : Int) (u.a0 : Int) (u.a1 : Int) (u.a2 : Int) (u.a3 : Int) (u.a4 : Int) (u.a5 : Int) (u.a6 : Int) (u.a7 : Int) v.kind v.name (v.v4 : Int) (v.a0 : Int) (v.a1 : Int) (v.a2 : Int) (v.a3 : Int) (v.a4 : Int) (v.a5 : Int) (v.a6 : Int) (v.a7 : Int) ⟨hu.nums.k0, hu.nums.k1⟩ (by have := hu.name; omega) ⟨by omega, by have := hu.nums.v4; omega⟩ (a _ (by simp [Url12.v6])) (a _ (by simp [Url12.v6])) (a _ (by simp [Url12.v6])) (a _ (by simp [Url12.v6])) (a _ (by simp [Url12.v6])) (a _ (by simp [Url12.v6])) (a _ (by simp [Url12.v6])) (a _ (by simp [Url12.v6])) ⟨hv.nums.k0, hv.nums.k1⟩ (by have := hv.name; omega) ⟨by omega, by have := hv.nums.v4; omega⟩ (b' _ (by simp [Url12.v6])) (b' _ (by simp [Url12.v6])) (b' _ (by simp [Url12.v6])) (b' _ (by simp [Url12.v6])) (b' _ (by simp [Url12.v6])) (b' _ (by simp [Url12.v6])) (b' _ (by simp [Url12.v6])) (b' _ (by simp [Url12.v6])) W
  rw [← hb]
  exact h
theorem tl12 {s t : ByteArray} : s.toList = t.toList ↔ s = t := by
  rw [ByteArray.toList_eq, ByteArray.toList_eq]
  exact ⟨fun h => ByteArray.ext (Array.toList_inj.1 h), fun h => by rw [h]⟩
theorem same12_parts (u v : Url12) : same12 u v = ((u.scheme.toList == v.scheme.toList) && (u.user.toList == v.user.toList) && (u.pass.toList == v.pass.toList) && (host12 u v) && (u.port == v.port) && (u.opaq == v.opaq) && (decide (u.path = v.path)) && (u.hasQ == v.hasQ) && (u.query.toList == v.query.toList) && (u.hasF == v.hasF) && (u.frag.toList == v.frag.toList)) := by
  rw [Bool.eq_iff_iff]
  unfold same12
  rw [decide_eq_true_eq]
  unfold Same12
  simp only [Bool.and_eq_true, tl12, host12_iff, beq_iff_eq, decide_eq_true_eq]
  constructor
  · rintro ⟨h1, h2, h3, h4, h5, h6, h7, h8, h9, h10, h11⟩; exact ⟨⟨⟨⟨⟨⟨⟨⟨⟨⟨h1, h2⟩, h3⟩, h4⟩, h5⟩, h6⟩, h7⟩, h8⟩, h9⟩, h10⟩, h11⟩
  · rintro ⟨⟨⟨⟨⟨⟨⟨⟨⟨⟨h1, h2⟩, h3⟩, h4⟩, h5⟩, h6⟩, h7⟩, h8⟩, h9⟩, h10⟩, h11⟩; exact ⟨h1, h2, h3, h4, h5, h6, h7, h8, h9, h10, h11⟩
theorem two12 {w : World} (x0 x1 x2 x3 x4 x5 x6 x7 x8 x9 x10 x11 x12 x13 x14 x15 x16 x17 x18 x19 x20 y0 y1 y2 y3 y4 y5 y6 y7 y8 y9 y10 y11 y12 y13 y14 y15 y16 y17 y18 y19 y20 : Value) : ∀ wx, Below ((w.alloc (.cells #[x0, x1, x2, x3, x4, x5, x6, x7, x8, x9, x10, x11, x12, x13, x14, x15, x16, x17, x18, x19, x20] 29)).alloc (.cells #[y0, y1, y2, y3, y4, y5, y6, y7, y8, y9, y10, y11, y12, y13, y14, y15, y16, y17, y18, y19, y20] 29)).heap.size ((w.alloc (.cells #[x0, x1, x2, x3, x4, x5, x6, x7, x8, x9, x10, x11, x12, x13, x14, x15, x16, x17, x18, x19, x20] 29)).alloc (.cells #[y0, y1, y2, y3, y4, y5, y6, y7, y8, y9, y10, y11, y12, y13, y14, y15, y16, y17, y18, y19, y20] 29)) wx → (Hid (wx.heap[w.heap.size]? = some (.cells #[x0, x1, x2, x3, x4, x5, x6, x7, x8, x9, x10, x11, x12, x13, x14, x15, x16, x17, x18, x19, x20] 29 (0, 0))) ∧ wx.cell? ⟨w.heap.size, 14, none⟩ = some x14 ∧ wx.cell? ⟨w.heap.size, 15, none⟩ = some x15 ∧ wx.cell? ⟨w.heap.size, 16, none⟩ = some x16 ∧ wx.cell? ⟨w.heap.size, 17, none⟩ = some x17 ∧ wx.cell? ⟨w.heap.size, 18, none⟩ = some x18 ∧ wx.cell? ⟨w.heap.size, 19, none⟩ = some x19 ∧ wx.cell? ⟨w.heap.size, 20, none⟩ = some x20) ∧ (Hid (wx.heap[w.heap.size + 1]? = some (.cells #[y0, y1, y2, y3, y4, y5, y6, y7, y8, y9, y10, y11, y12, y13, y14, y15, y16, y17, y18, y19, y20] 29 (0, 0))) ∧ wx.cell? ⟨w.heap.size + 1, 14, none⟩ = some y14 ∧ wx.cell? ⟨w.heap.size + 1, 15, none⟩ = some y15 ∧ wx.cell? ⟨w.heap.size + 1, 16, none⟩ = some y16 ∧ wx.cell? ⟨w.heap.size + 1, 17, none⟩ = some y17 ∧ wx.cell? ⟨w.heap.size + 1, 18, none⟩ = some y18 ∧ wx.cell? ⟨w.heap.size + 1, 19, none⟩ = some y19 ∧ wx.cell? ⟨w.heap.size + 1, 20, none⟩ = some y20) := by
  intro wx hb
  have h1 : wx.heap[w.heap.size]? = some (.cells #[x0, x1, x2, x3, x4, x5, x6, x7, x8, x9, x10, x11, x12, x13, x14, x15, x16, x17, x18, x19, x20] 29 (0, 0)) := (hb.block w.heap.size (by simp; omega)).trans (by
    have := (bel12 (w.alloc (.cells #[x0, x1, x2, x3, x4, x5, x6, x7, x8, x9, x10, x11, x12, x13, x14, x15, x16, x17, x18, x19, x20] 29)) (.cells #[y0, y1, y2, y3, y4, y5, y6, y7, y8, y9, y10, y11, y12, y13, y14, y15, y16, y17, y18, y19, y20] 29)).block w.heap.size (by simp)
    exact this.trans (heap_alloc_new w _))
  have h2 : wx.heap[w.heap.size + 1]? = some (.cells #[y0, y1, y2, y3, y4, y5, y6, y7, y8, y9, y10, y11, y12, y13, y14, y15, y16, y17, y18, y19, y20] 29 (0, 0)) := (hb.block (w.heap.size + 1) (by simp)).trans (by
    have := heap_alloc_new (w.alloc (.cells #[x0, x1, x2, x3, x4, x5, x6, x7, x8, x9, x10, x11, x12, x13, x14, x15, x16, x17, x18, x19, x20] 29)) (.cells #[y0, y1, y2, y3, y4, y5, y6, y7, y8, y9, y10, y11, y12, y13, y14, y15, y16, y17, y18, y19, y20] 29)
    rwa [World.size_alloc] at this)
  refine ⟨⟨h1, ?_, ?_, ?_, ?_, ?_, ?_, ?_⟩, h2, ?_, ?_, ?_, ?_, ?_, ?_, ?_⟩
  all_goals first | (simp [World.cell?, h1]; done) | (simp [World.cell?, h2]; done)

end Go.Proofs.YtliklhldlofnjaaDoor

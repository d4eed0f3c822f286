/-
  In this text, one behind the other: SixQuad.
-/
import Derived.BigQuiet
import Derived.Deep.AppendLies
import Derived.Deep.Light
import Derived.Deep.QuietTactic
import Derived.Deep.RegionHeld3
import Derived.Deep.RegionWith
import Derived.IntWalk
import Derived.LaidEql
import Derived.Laws.BitsAllLaws
import Derived.Laws.BitsLemmas
import Derived.Laws.Cover4
import Derived.Lib.Hide
import Derived.Lib.IndexBytes
import Derived.Lib.IndexMore
import Derived.Lib.ParseIntB
import Derived.Maps.AppendAt
import Derived.RowKitTokens
import Derived.Shelf.Spec.TrailingZeros
import Derived.Shelf.Strings.OnBuilder
import Derived.Stop.Asserts
import Derived.WalkKit
import Derived.WalkLawsBesides
import Derived.WalkSpells
import Derived.Test.YtliklhldlofnjaaDoorRows
import Derived.Test.YtliklhldlofnjaaDoorG14
/-
  The program's number and quad of layer 8, by their contracts.
-/
namespace Go.Proofs.YtliklhldlofnjaaDoor
open Go.RowKit

/-- A block of numbers of 16 bits. -/
def RowU (t : TypeId) (w : World) (g : Nat) (c : List Nat) : Prop := w.heap[g]? = some (.cells (c.map fun n : Nat => Value.int .u16 (n : Int)).toArray t (0, 0))
theorem RowU.at {t : TypeId} {w : World} {g : Nat} {c : List Nat} (h : RowU t w g c) {j x : Nat} (hx : c[j]? = some x) : w.cell? ⟨g, j, none⟩ = some (.int .u16 (x : Int)) ∧ w.frozen? ⟨g, j, none⟩ = false := by
  unfold RowU at h
  constructor
  · simp [World.cell?, h, hx]
  · simp [World.frozen?, h]
theorem RowU.lt {t : TypeId} {w : World} {g : Nat} {c : List Nat} (h : RowU t w g c) : g < w.heap.size := (Array.getElem?_eq_some_iff.1 h).1
theorem RowU.below {t : TypeId} {w w' : World} {g : Nat} {c : List Nat} (h : RowU t w g c) (hb : Below w.heap.size w w') : RowU t w' g c := (hb.block g h.lt).trans h
theorem RowU.new (t : TypeId) (w : World) (c : List Nat) : RowU t (w.alloc (.cells (c.map fun n : Nat => Value.int .u16 (n : Int)).toArray t)) w.heap.size c := heap_alloc_new w _
/-! The quad. -/
end Go.Proofs.YtliklhldlofnjaaDoor

/-
  In this text, one behind the other: SixVar.
-/
import Derived.BigQuiet
import Derived.Deep.AppendLies
import Derived.Deep.Light
import Derived.Deep.QuietTactic
import Derived.Deep.RegionHeld3
import Derived.Deep.RegionWith
import Derived.IntWalk
import Derived.LaidEql
import Derived.Laws.BitsLemmas
import Derived.Laws.Cover4
import Derived.Lib.Hide
import Derived.Lib.IndexBytes
import Derived.Lib.IndexMore
import Derived.Lib.ParseIntB
import Derived.Maps.AppendAt
import Derived.RowKitTokens
import Derived.Shelf.Spec.TrailingZeros
import Derived.Shelf.Strings.OnBuilder
import Derived.Stop.Asserts
import Derived.WalkKit
import Derived.WalkLawsBesides
import Derived.WalkSpells
import Derived.Test.YtliklhldlofnjaaDoorRows
import Derived.Test.YtliklhldlofnjaaDoorG7
import Derived.Test.YtliklhldlofnjaaDoorG8
import Derived.Test.YtliklhldlofnjaaDoorG12
import Derived.Test.YtliklhldlofnjaaDoorG13
/-
  What the program of layer 12 asks of the library's variables (ipsix.Text): a table alone (the other layers' SixVar has more).
-/
namespace Go.Proofs.YtliklhldlofnjaaDoor
open Go.RowKit Go.Shelf

structure V8 (w : World) : Prop where
  tz : TabAt 3 Lib.deBruijn64tab w
theorem cell_lt8 {w : World} {a : Addr} {v : Value} (h : w.cell? a = some v) : a.block < w.heap.size := by
  by_cases hb : a.block < w.heap.size
  · exact hb
  · rw [World.cell?, Array.getElem?_eq_none (by omega)] at h
    cases h
theorem V8.belowB {w w' : World} {B : Nat} (h : V8 w) (hB : B = w.heap.size) (hb : Below B w w') : V8 w' := by
  subst hB
  exact ⟨fun j hj => (hb.cell (cell_lt8 (h.tz j hj))).trans (h.tz j hj)⟩
theorem V8.below {w w' : World} (h : V8 w) (hb : Below w.heap.size w w') : V8 w' := h.belowB rfl hb
end Go.Proofs.YtliklhldlofnjaaDoor

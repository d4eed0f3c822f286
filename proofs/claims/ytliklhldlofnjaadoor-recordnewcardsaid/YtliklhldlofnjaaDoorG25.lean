/-
  In this text, one behind the other: PthCon, PthSame.
-/
import Derived.BigQuiet
import Derived.Deep.Light
import Derived.Deep.QuietTactic
import Derived.Deep.RegionHeld3
import Derived.IntWalk
import Derived.LaidEql
import Derived.Laws.AppendOwnNone
import Derived.Laws.BitsLemmas
import Derived.Laws.Cover4
import Derived.Lib.Hide
import Derived.Maps.AppendAt
import Derived.RowKitTokens
import Derived.Stop.Asserts
import Derived.WalkKit
import Derived.WalkLawsBesides
import Derived.WalkSpells
import Derived.Test.YtliklhldlofnjaaDoorRows
import Derived.Test.YtliklhldlofnjaaDoorG3
import Derived.Test.YtliklhldlofnjaaDoorG6
/-
  What the program's functions of layer 11 are held against: their contracts, as hypotheses; the example (written by mkpthcon.py).
-/
namespace Go.Proofs.YtliklhldlofnjaaDoor
open Go.RowKit

def TextC11 (s : ByteArray) (w : World) (e : Ending) (w' : World) : Prop := e = .returned (.string s) ∧ Below w.heap.size w w'
end Go.Proofs.YtliklhldlofnjaaDoor

/-
  Same and Few of segments, by their contracts (written by mkpthlaws.py).
-/
namespace Go.Proofs.YtliklhldlofnjaaDoor
open Go.RowKit

/-- Two lists that are the same11. -/
def same11 (a b : List ByteArray) : Bool := decide (a = b)

theorem ne_of_at11 {a b : List ByteArray} {k : Nat} (ha : k < a.length) (hb : k < b.length) (h : a[k] ≠ b[k]) : same11 a b = false := by
  simp only [same11, decide_eq_false_iff_not]
  rintro rfl
  exact h rfl
theorem ne_of_len11 {a b : List ByteArray} (h : a.length ≠ b.length) : same11 a b = false := by
  simp only [same11, decide_eq_false_iff_not]
  rintro rfl
  exact h rfl

theorem same_segs (ps qs : List Seg) : same11 (ps.map txt10) (qs.map txt10) = decide (ps = qs) := by
  unfold same11
  rw [Bool.eq_iff_iff, decide_eq_true_eq, decide_eq_true_eq]
  constructor
  · intro h
    have e : ∀ l : List Seg, (l.map txt10).map (fun s : ByteArray => s.data.toList) = l := fun l => by rw [List.map_map]; exact List.map_id l
    rw [← e ps, h, e qs]
  · rintro rfl; rfl
end Go.Proofs.YtliklhldlofnjaaDoor

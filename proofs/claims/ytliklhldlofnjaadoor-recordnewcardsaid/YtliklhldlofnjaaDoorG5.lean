/-
  In this text, one behind the other: FBase.
-/
import Derived.LaidEql
import Derived.Lib.Hide
import Derived.RowKitTokens
import Derived.Stop.Asserts
import Derived.WalkKit
import Derived.WalkLawsBesides
import Derived.WalkSpells
import Derived.Test.YtliklhldlofnjaaDoorRows
/-
  Words for the errors of package fail: chains of wrapped errors in memory, and slices of strings.
-/
namespace Go.Proofs.YtliklhldlofnjaaDoor
open Go.RowKit

/-- A slice of strings that reads as a list; nil let in. -/
def Strs (w : World) (A : Option Addr) (ss : List ByteArray) : Prop :=
  ∀ i s, ss[i]? = some s → ∃ b off, A = some ⟨b, off, none⟩ ∧ b < w.heap.size ∧ w.cell? ⟨b, off + i, none⟩ = some (.string s)

theorem Strs.below {w w' : World} {A : Option Addr} {ss : List ByteArray} (h : Strs w A ss) (hb : Below w.heap.size w w') : Strs w' A ss := by
  intro i s hs
  obtain ⟨b, off, e, hl, hc⟩ := h i s hs
  exact ⟨b, off, e, Nat.lt_of_lt_of_le hl hb.size, (hb.cell (p := ⟨b, off + i, none⟩) hl).trans hc⟩

theorem bytes_same {a b : ByteArray} (h : a = b) : (a.toList == b.toList) = true := by rw [h]; simp
theorem bytes_other {a b : ByteArray} (h : a ≠ b) : (a.toList == b.toList) = false := by
  rw [beq_eq_false_iff_ne, ByteArray.toList_eq, ByteArray.toList_eq]
  exact fun e => h (WideShapes.bytes_inj e)

end Go.Proofs.YtliklhldlofnjaaDoor

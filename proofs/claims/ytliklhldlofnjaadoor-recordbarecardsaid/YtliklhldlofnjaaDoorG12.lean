/-
  In this text, one behind the other: SixMath.
-/
import Derived.Laws.Cover4
import Derived.Lib.IndexBytes
import Derived.Lib.IndexMore
import Derived.Lib.ParseIntB
import Derived.Test.YtliklhldlofnjaaDoorG1
/-
  Why the program's reading of layer 8 is the document's: words with room for eight pieces, the first pair of colons, the longest run of noughts.
-/
namespace Go.Proofs.YtliklhldlofnjaaDoor

/-! The first pair, by the library's words. -/
/-! The longest run. -/
/-- The place of the longest run among the first i places. -/
def bst8 (l : List Nat) (i : Nat) : Nat := best8 l i 0 0
theorem best8_snoc (l : List Nat) : ∀ (k i b : Nat), best8 l (k + 1) i b = (if run8 (l.drop (best8 l k i b)) < run8 (l.drop (i + k)) then i + k else best8 l k i b) := by
  intro k
  induction k with
  | zero => intro i b; rfl
  | succ k ih =>
    intro i b
    rw [best8, ih, best8, show i + 1 + k = i + (k + 1) by omega]
theorem bst8_succ (l : List Nat) (i : Nat) : bst8 l (i + 1) = (if run8 (l.drop (bst8 l i)) < run8 (l.drop i) then i else bst8 l i) := by
  unfold bst8
  rw [best8_snoc, Nat.zero_add]
theorem bst8_zero (l : List Nat) : bst8 l 0 = 0 := rfl
theorem bst8_le (l : List Nat) : ∀ i, bst8 l i ≤ i := by
  intro i
  induction i with
  | zero => exact Nat.le_refl _
  | succ i ih => rw [bst8_succ]; split <;> omega
theorem run8_drop (l : List Nat) (j : Nat) : run8 (l.drop j) ≤ l.length - j := by
  have := run8_le (l.drop j)
  rw [List.length_drop] at this
  exact this
/-- Behind a run to the end none is longer. -/
theorem bst8_rest (l : List Nat) (i : Nat) (h : l.length - i ≤ run8 (l.drop (bst8 l (i + 1)))) : ∀ k, bst8 l (i + 1 + k) = bst8 l (i + 1) := by
  intro k
  induction k with
  | zero => rfl
  | succ k ih =>
    rw [← Nat.add_assoc, bst8_succ, ih, if_neg]
    have := run8_drop l (i + 1 + k)
    omega
/-! Numbers of a quad, by the library's words. -/
end Go.Proofs.YtliklhldlofnjaaDoor

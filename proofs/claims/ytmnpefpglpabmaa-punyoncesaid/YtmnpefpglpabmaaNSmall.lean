/-
  The document's small functions of layer 4 (Threshold, digit, value, Adapt, tell, least, hyphen, weighted), by their contracts.
-/
import Derived.Test.YtmnpefpglpabmaaNMath4
import Derived.Test.YtmnpefpglpabmaaRef3
namespace Go.Proofs.Ytmnpefpglpabmaa
open Go.RowKit

theorem adaptLoop_le : ∀ (d k : Nat), adaptLoop d k ≤ d + k + 36 := by
  intro d
  induction d using Nat.strongRecOn with
  | _ d ih =>
    intro k
    rw [adaptLoop]
    split
    · have := ih (d / 35) (by omega) (k + 36)
      omega
    · have : 36 * d / (d + 38) ≤ 36 := by
        apply Nat.div_le_of_le_mul
        rw [Nat.mul_comm]
        exact Nat.mul_le_mul_right _ (by omega)
      omega
theorem adapt_le (delta many : Nat) (once : Bool) : adapt delta many once ≤ delta + 36 := by
  unfold adapt
  have h1 := adaptLoop_le ((if once then delta / 700 else delta / 2) + (if once then delta / 700 else delta / 2) / many) 0
  have h2 : (if once then delta / 700 else delta / 2) ≤ delta / 2 := by split <;> omega
  have h3 : (if once then delta / 700 else delta / 2) / many ≤ (if once then delta / 700 else delta / 2) := Nat.div_le_self _ _
  omega

theorem adaptLoop_more {d k : Nat} (h : 455 < d) : adaptLoop d k = adaptLoop (d / 35) (k + 36) := by rw [adaptLoop, dif_pos h]
theorem adaptLoop_end {d k : Nat} (h : ¬ 455 < d) : adaptLoop d k = k + 36 * d / (d + 38) := by rw [adaptLoop, dif_neg h]

end Go.Proofs.Ytmnpefpglpabmaa

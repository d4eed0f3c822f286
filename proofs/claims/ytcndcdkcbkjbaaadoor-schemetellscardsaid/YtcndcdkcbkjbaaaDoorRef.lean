/-
  The document's answers of layer 2 (begin, value, bytes, Decode, Encode, Valid), by their contracts.
-/
import Derived.Test.YtcndcdkcbkjbaaaDoorLists
import Derived.IntWalk
namespace Go.Proofs.YtcndcdkcbkjbaaaDoor
open Go.RowKit

/-- How many bytes, from a place on, are the longest begin of some scalar's. -/
def begOf (s : ByteArray) (k : Nat) (h : k < s.size) : Nat := if lensOf s[k].toNat = 0 then 0 else ext s[k].toNat (lensOf s[k].toNat) 1 (s.data.toList.drop (k + 1))

def BegRel (s : ByteArray) (k : Nat) (h : k < s.size) (n j : Nat) : Prop :=
  (n = 0 ∧ j = 0) ∨ (1 ≤ n ∧ 1 ≤ j ∧ j ≤ n ∧ k + j ≤ s.size ∧ ext s[k].toNat n 1 (s.data.toList.drop (k + 1)) = ext s[k].toNat n j (s.data.toList.drop (k + j)))

theorem BegRel.ends {s : ByteArray} {k : Nat} {h : k < s.size} {n j : Nat} (r : BegRel s k h n j) (hn : lensOf s[k].toNat = n)
    (hj : ¬ (0 < j ∧ j < n ∧ k + j < s.size) ∨ ∃ hs : k + j < s.size, fol s[k].toNat s[k + j].toNat j = false) : begOf s k h = j := by
  unfold begOf
  rcases r with ⟨h1, h2⟩ | ⟨h1, h2, h3, h4, h5⟩
  · rw [if_pos (by omega), h2]
  · rw [if_neg (by omega), hn, h5]
    rcases hj with hj | ⟨hs, hf⟩
    · by_cases e : j = n
      · subst e; exact ext_full _ _ _ _ (Nat.le_refl _)
      · rw [drop_end s (k + j) (by omega), ext_nil]
    · rw [drop_byte s (k + j) hs, ext_bad _ _ _ _ _ hf]
theorem BegRel.next {s : ByteArray} {k : Nat} {h : k < s.size} {n j : Nat} (r : BegRel s k h n j) (h0 : 0 < j) (h1 : j < n) (h2 : k + j < s.size) (hf : fol s[k].toNat s[k + j].toNat j = true) : BegRel s k h n (j + 1) := by
  rcases r with ⟨h1, h2⟩ | ⟨h1, h2, h3, h4, h5⟩
  · omega
  · refine .inr ⟨h1, by omega, by omega, by omega, ?_⟩
    rw [h5, drop_byte s (k + j) (by omega), ext_good _ _ _ _ _ (by omega) hf]
    rfl

theorem acc_snoc (v : Int) (t : List UInt8) (c : UInt8) : acc v (t ++ [c]) = 64 * acc v t + (c.toNat : Int) - 128 := by
  unfold acc; rw [List.foldl_append]; simp only [List.foldl]; omega

def ValRel (s : ByteArray) (h0 : 0 < s.size) (k : Nat) (v : Int) : Prop :=
  1 ≤ k ∧ k ≤ s.size ∧ v = acc (headBits s[0].toNat s.size) ((s.data.toList.drop 1).take (k - 1)) ∧
  (k = 1 → -300 ≤ v ∧ v ≤ 300) ∧ (k = 2 → -20000 ≤ v ∧ v ≤ 20000) ∧ (k = 3 → -1300000 ≤ v ∧ v ≤ 1300000) ∧ (k = 4 → -90000000 ≤ v ∧ v ≤ 90000000)

theorem ValRel.next {s : ByteArray} {h0 : 0 < s.size} {k : Nat} {v : Int} (r : ValRel s h0 k v) (h : k < s.size) : ValRel s h0 (k + 1) (64 * v + (s[k].toNat : Int) - 128) := by
  obtain ⟨r1, r2, r3, r4, r5, r6, r7⟩ := r
  have hu : s[k].toNat < 256 := s[k].toNat_lt
  refine ⟨by omega, by omega, ?_, by omega, by omega, by omega, by omega⟩
  rw [Nat.add_sub_cancel, take_byte s k h r1, acc_snoc, r3]

end Go.Proofs.YtcndcdkcbkjbaaaDoor

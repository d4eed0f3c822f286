/-
  The document's Decode and Valid of layer 2, by their contracts.
-/
import Derived.Test.YtcndcdkcbkjbaaaDoorRef2
namespace Go.Proofs.YtcndcdkcbkjbaaaDoor
open Go.RowKit

theorem one_beg_whole {s : ByteArray} {k b : Nat} (h : k < s.size) (hb : begOf s k h = b) (h0 : 0 < b) (hn : b = lensOf s[k].toNat) :
    one (s.data.toList.drop k) = (acc (headBits s[k].toNat b) ((s.data.toList.drop (k + 1)).take (b - 1)), b, true) := by
  unfold begOf at hb
  rw [if_neg (by omega)] at hb
  rw [drop_byte s k h]
  simp only [one]
  rw [if_pos (by omega), ← hn]
theorem one_beg_part {s : ByteArray} {k b : Nat} (h : k < s.size) (hb : begOf s k h = b) (hn : b = 0 ∨ b ≠ lensOf s[k].toNat) :
    one (s.data.toList.drop k) = (65533, max b 1, false) := by
  unfold begOf at hb
  rw [drop_byte s k h]
  simp only [one]
  by_cases e : lensOf s[k].toNat = 0
  · rw [if_pos e] at hb
    rw [e, ext_full _ _ _ _ (by omega), if_neg (by omega), ← hb]
    rfl
  · rw [if_neg e] at hb
    have hg := ext_ge s[k].toNat (lensOf s[k].toNat) (s.data.toList.drop (k + 1)) 1
    rw [if_neg (by omega), hb, Nat.max_eq_left (by omega)]
theorem beg_le {s : ByteArray} {k : Nat} (h : k < s.size) : begOf s k h ≤ 4 ∧ k + begOf s k h ≤ s.size := by
  unfold begOf
  have h1 := ext_le s[k].toNat (lensOf s[k].toNat) (s.data.toList.drop (k + 1)) 1
  have h2 := ext_le_n s[k].toNat (lensOf s[k].toNat) (s.data.toList.drop (k + 1)) 1
  have h3 := lensOf_le s[k].toNat
  simp at h1
  split <;> omega

theorem part_list (s : ByteArray) (k b : Nat) : (s.extract k (k + b)).data.toList = (s.data.toList.drop k).take b := by
  simp only [ByteArray.data_extract, Array.toList_extract, List.extract_eq_take_drop]
  congr 1; omega
theorem part_size (s : ByteArray) (k b : Nat) (h : k + b ≤ s.size) : (s.extract k (k + b)).size = b := by
  simp; omega

def ValPost (v : Int) (w : World) (e : Ending) (w' : World) : Prop := e = .returned (.int .i32 v) ∧ Below w.heap.size w w'
theorem enc_dec_eq (s t : ByteArray) (ht : t.data.toList = enc (dec s.data.toList)) : (t.toList == s.toList) = vld s.data.toList := by
  rw [ByteArray.toList_eq, ByteArray.toList_eq, ht, vld_eq]
  rw [Bool.eq_iff_iff]; simp

end Go.Proofs.YtcndcdkcbkjbaaaDoor

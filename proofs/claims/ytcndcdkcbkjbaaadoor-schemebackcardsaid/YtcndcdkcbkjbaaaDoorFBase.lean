/-
  Words for the errors of package fail: chains of wrapped errors in memory, and slices of strings.
-/
import Derived.Test.YtcndcdkcbkjbaaaDoorRows
import Derived.WalkKit
import Derived.WalkSpells
import Derived.WalkLawsBesides
import Derived.Lib.Hide
import Derived.LaidEql
import Derived.Stop.Asserts
import Derived.RowKitTokens
namespace Go.Proofs.YtcndcdkcbkjbaaaDoor
open Go.RowKit

/-- An error value that is 'cs' wrapped round an end (the outermost call first): a number, or nothing. -/
def Chain (w : World) : List ByteArray → Option Int → Value → Prop
  | [], some n, v => v = .iface 33 (.int .i64 n)
  | [], none, v => v = .nilIface
  | c :: cs, o, v => ∃ b v', v = .iface 61 (.pointer (some ⟨b, 0, none⟩)) ∧ b < w.heap.size ∧
      w.cell? ⟨b, 0, none⟩ = some (.string c) ∧ w.cell? ⟨b, 1, none⟩ = some v' ∧ Chain w cs o v'

theorem Chain.below {w w' : World} (hb : Below w.heap.size w w') : ∀ {cs : List ByteArray} {o : Option Int} {v : Value}, Chain w cs o v → Chain w' cs o v
  | [], some _, _, h => h
  | [], none, _, h => h
  | _ :: _, _, _, ⟨b, v', e, hl, h0, h1, h2⟩ =>
    ⟨b, v', e, Nat.lt_of_lt_of_le hl hb.size, (hb.cell (p := ⟨b, 0, none⟩) hl).trans h0, (hb.cell (p := ⟨b, 1, none⟩) hl).trans h1, Chain.below hb h2⟩

/-- A slice of strings that reads as a list; nil let in. -/
def Strs (w : World) (A : Option Addr) (ss : List ByteArray) : Prop :=
  ∀ i s, ss[i]? = some s → ∃ b off, A = some ⟨b, off, none⟩ ∧ b < w.heap.size ∧ w.cell? ⟨b, off + i, none⟩ = some (.string s)

theorem Strs.below {w w' : World} {A : Option Addr} {ss : List ByteArray} (h : Strs w A ss) (hb : Below w.heap.size w w') : Strs w' A ss := by
  intro i s hs
  obtain ⟨b, off, e, hl, hc⟩ := h i s hs
  exact ⟨b, off, e, Nat.lt_of_lt_of_le hl hb.size, (hb.cell (p := ⟨b, off + i, none⟩) hl).trans hc⟩

theorem bytes_same {a b : ByteArray} (h : a = b) : (a.toList == b.toList) = true := by rw [h]; simp
theorem bytes_other {a b : ByteArray} (h : a ≠ b) : (a.toList == b.toList) = false := by
  rw [beq_eq_false_iff_ne, ByteArray.toList_eq, ByteArray.toList_eq]
  exact fun e => h (WideShapes.bytes_inj e)

/-- 20 texts of 60 bytes at most. -/
def few (ss : List ByteArray) : Bool := decide (ss.length ≤ 20) && (ss.take 21).all fun s => decide (s.size ≤ 60)

theorem few_false_long {ss : List ByteArray} (h : ¬ ss.length ≤ 20) : few ss = false := by simp [few]; omega
theorem few_false_at {ss : List ByteArray} {k : Nat} (hk : k < ss.length) (h21 : k < 21) (h : 60 < ss[k].size) : few ss = false := by
  simp only [few, Bool.and_eq_false_iff]
  right
  rw [List.all_eq_false]
  refine ⟨ss[k], ?_, by simp; omega⟩
  rw [List.mem_iff_getElem]
  exact ⟨k, by simp; omega, by simp⟩
theorem few_true {ss : List ByteArray} (hl : ss.length ≤ 20) (h : ∀ j, (hj : j < ss.length) → ss[j].size ≤ 60) : few ss = true := by
  simp only [few, Bool.and_eq_true, decide_eq_true_eq, List.all_eq_true]
  refine ⟨hl, fun s hs => ?_⟩
  obtain ⟨j, hj, rfl⟩ := List.mem_iff_getElem.1 (List.mem_of_mem_take hs)
  exact h j hj
theorem few_len {ss : List ByteArray} (h : few ss = true) : ss.length ≤ 20 := by
  simp only [few, Bool.and_eq_true, decide_eq_true_eq] at h; exact h.1
theorem few_size {ss : List ByteArray} (h : few ss = true) : ∀ s ∈ ss, s.size ≤ 60 := by
  have hl := few_len h
  simp only [few, Bool.and_eq_true, decide_eq_true_eq, List.all_eq_true] at h
  intro s hs
  exact h.2 s (by rw [List.take_of_length_le (by omega)]; exact hs)

end Go.Proofs.YtcndcdkcbkjbaaaDoor

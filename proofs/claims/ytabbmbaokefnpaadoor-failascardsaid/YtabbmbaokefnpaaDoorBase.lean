/-
  Words for the errors of package fail: chains of wrapped errors in memory, and slices of strings.
-/
import Derived.Test.YtabbmbaokefnpaaDoorRows
import Derived.WalkKit
import Derived.WalkSpells
import Derived.WalkLawsBesides
import Derived.Lib.Hide
import Derived.LaidEql
import Derived.Stop.Asserts
import Derived.RowKitTokens
namespace Go.Proofs.YtabbmbaokefnpaaDoor
open Go.RowKit

/-- An error value that is 'cs' wrapped round an end (the outermost call first): a number, or nothing. -/
def Chain (w : World) : List ByteArray → Option Int → Value → Prop
  | [], some n, v => v = .iface 25 (.int .i64 n)
  | [], none, v => v = .nilIface
  | c :: cs, o, v => ∃ b v', v = .iface 40 (.pointer (some ⟨b, 0, none⟩)) ∧ b < w.heap.size ∧
      w.cell? ⟨b, 0, none⟩ = some (.string c) ∧ w.cell? ⟨b, 1, none⟩ = some v' ∧ Chain w cs o v'

theorem Chain.below {w w' : World} (hb : Below w.heap.size w w') : ∀ {cs : List ByteArray} {o : Option Int} {v : Value}, Chain w cs o v → Chain w' cs o v
  | [], some _, _, h => h
  | [], none, _, h => h
  | _ :: _, _, _, ⟨b, v', e, hl, h0, h1, h2⟩ =>
    ⟨b, v', e, Nat.lt_of_lt_of_le hl hb.size, (hb.cell (p := ⟨b, 0, none⟩) hl).trans h0, (hb.cell (p := ⟨b, 1, none⟩) hl).trans h1, Chain.below hb h2⟩

/-- A slice of strings that reads as a list; nil let in. -/
def Strs (w : World) (A : Option Addr) (ss : List ByteArray) : Prop :=
  ∀ i s, ss[i]? = some s → ∃ b off, A = some ⟨b, off, none⟩ ∧ b < w.heap.size ∧ w.cell? ⟨b, off + i, none⟩ = some (.string s)

theorem Strs.below {w w' : World} {A : Option Addr} {ss : List ByteArray} (h : Strs w A ss) (hb : Below w.heap.size w w') : Strs w' A ss := by
  intro i s hs
  obtain ⟨b, off, e, hl, hc⟩ := h i s hs
  exact ⟨b, off, e, Nat.lt_of_lt_of_le hl hb.size, (hb.cell (p := ⟨b, off + i, none⟩) hl).trans hc⟩

theorem bytes_same {a b : ByteArray} (h : a = b) : (a.toList == b.toList) = true := by rw [h]; simp
theorem bytes_other {a b : ByteArray} (h : a ≠ b) : (a.toList == b.toList) = false := by
  rw [beq_eq_false_iff_ne, ByteArray.toList_eq, ByteArray.toList_eq]
  exact fun e => h (WideShapes.bytes_inj e)

/-- 20 texts of 60 bytes at most. -/
def few (ss : List ByteArray) : Bool := decide (ss.length ≤ 20) && (ss.take 21).all fun s => decide (s.size ≤ 60)

set_option maxHeartbeats 400000 in
theorem number_any (n : Int) (w : World) (h0 : 0 ≤ n) (h1 : n ≤ 255) :
    Calls Tryd.prog 10 #[.int .u8 n] w fun e w' => e = .returned (.int .i64 (1 + n % 10)) ∧ w = w' := by
  go_enter Tryd.func10, Tryd.ntmps10
  go_wp2
  go_ret
  exact ⟨rfl, rfl⟩

theorem few_false_long {ss : List ByteArray} (h : ¬ ss.length ≤ 20) : few ss = false := by simp [few]; omega
theorem few_false_at {ss : List ByteArray} {k : Nat} (hk : k < ss.length) (h21 : k < 21) (h : 60 < ss[k].size) : few ss = false := by
  simp only [few, Bool.and_eq_false_iff]
  right
  rw [List.all_eq_false]
  refine ⟨ss[k], ?_, by simp; omega⟩
  rw [List.mem_iff_getElem]
  exact ⟨k, by simp; omega, by simp⟩
theorem few_true {ss : List ByteArray} (hl : ss.length ≤ 20) (h : ∀ j, (hj : j < ss.length) → ss[j].size ≤ 60) : few ss = true := by
  simp only [few, Bool.and_eq_true, decide_eq_true_eq, List.all_eq_true]
  refine ⟨hl, fun s hs => ?_⟩
  obtain ⟨j, hj, rfl⟩ := List.mem_iff_getElem.1 (List.mem_of_mem_take hs)
  exact h j hj
theorem few_len {ss : List ByteArray} (h : few ss = true) : ss.length ≤ 20 := by
  simp only [few, Bool.and_eq_true, decide_eq_true_eq] at h; exact h.1
theorem few_size {ss : List ByteArray} (h : few ss = true) : ∀ s ∈ ss, s.size ≤ 60 := by
  have hl := few_len h
  simp only [few, Bool.and_eq_true, decide_eq_true_eq, List.all_eq_true] at h
  intro s hs
  exact h.2 s (by rw [List.take_of_length_le (by omega)]; exact hs)

set_option maxHeartbeats 400000 in
theorem few_any (A : Option Addr) (ss : List ByteArray) (c : Nat) (w : World) (h : Strs w A ss) (hl : ss.length ≤ maxLen) :
    Calls Tryd.prog 9 #[.slice A ss.length c] w fun e w' => e = .returned (.bool (few ss)) ∧ w = w' := by
  unfold maxLen at hl
  go_enter Tryd.func9, Tryd.ntmps9
  go_wp2
  go_loop [3] (fun i => ∃ k : Nat, k ≤ ss.length ∧ k ≤ 21 ∧ i = .int .i64 k ∧ ∀ j, (hj : j < ss.length) → j < k → ss[j].size ≤ 60) (fun i => 21 - (intOf i).toNat)
  case atStart => exact ⟨0, Nat.zero_le _, by omega, rfl, fun j hj h => absurd h (by omega)⟩
  case round =>
    obtain ⟨k, hk, hk1, rfl, hall⟩ := hrel
    have HA := Lib.hid hall
    clear hall
    by_cases hlt : k < ss.length
    · by_cases hlt1 : k < 21
      · obtain ⟨b, off, rfl, hb, hc⟩ := h k ss[k] (List.getElem?_eq_getElem hlt)
        clear h
        by_cases hs : 60 < ss[k].size
        · have HF := Lib.hid (few_false_at hlt hlt1 hs)
          go_wp2
          go_ret
          exact ⟨by rw [HF.out]; rfl, rfl⟩
        · go_wp2
          go_round
          case rel =>
            refine ⟨k + 1, by omega, by omega, by go_num, fun j hj hjk => ?_⟩
            by_cases e : j = k
            · subst e; omega
            · exact HA.out j hj (by omega)
          case measure => simp [intOf]; omega
      · have HF := Lib.hid (few_false_long (ss := ss) (by omega))
        have hd : decide (ss.length ≤ 20) = false := by simp; omega
        clear h
        go_wp2
        go_ret
        exact ⟨by rw [HF.out]; simp; omega, rfl⟩
    · clear h
      by_cases h20 : ss.length ≤ 20
      · have HF := Lib.hid (few_true h20 fun j hj => HA.out j hj (by omega))
        go_wp2
        go_ret
        exact ⟨by rw [HF.out]; simp; omega, rfl⟩
      · have HF := Lib.hid (few_false_long (ss := ss) (by omega))
        go_wp2
        go_ret
        exact ⟨by rw [HF.out]; simp; omega, rfl⟩
end Go.Proofs.YtabbmbaokefnpaaDoor

/-
  utf.first: the scalar at the begin of a text, by its contract.
-/
import Derived.Test.YtcndcdkcbkjbaaaDoorSmall
import Derived.Laws.BitsLemmas
namespace Go.Proofs.YtcndcdkcbkjbaaaDoor
open Go.RowKit

theorem drop_byte (s : ByteArray) (k : Nat) (h : k < s.size) : s.data.toList.drop k = s[k] :: s.data.toList.drop (k + 1) := by
  rw [List.drop_eq_getElem_cons (by simpa using h)]; rfl
theorem drop_end (s : ByteArray) (k : Nat) (h : s.size ≤ k) : s.data.toList.drop k = [] := by
  apply List.drop_eq_nil_of_le; simpa using h
theorem take_byte (s : ByteArray) (k : Nat) (h : k < s.size) (h1 : 1 ≤ k) : (s.data.toList.drop 1).take k = (s.data.toList.drop 1).take (k - 1) ++ [s[k]] := by
  obtain ⟨j, rfl⟩ : ∃ j, k = j + 1 := ⟨k - 1, by omega⟩
  rw [List.take_succ_eq_append_getElem (by simp; omega)]
  simp only [Nat.add_sub_cancel, List.getElem_drop, Nat.add_comm 1 j]
  rfl
theorem one_whole (s : ByteArray) (h0 : 0 < s.size) (n : Nat) (hn : lensOf s[0].toNat = n) (h : ext s[0].toNat n 1 (s.data.toList.drop 1) = n) :
    one s.data.toList = (acc (headBits s[0].toNat n) ((s.data.toList.drop 1).take (n - 1)), n, true) := by
  have e := drop_byte s 0 h0
  rw [List.drop_zero] at e
  rw [e]
  subst hn
  simp only [one, List.drop_succ_cons, List.drop_zero]
  simp only [Nat.zero_add] at h ⊢
  rw [if_pos h]
theorem one_part (s : ByteArray) (h0 : 0 < s.size) (n k : Nat) (hn : lensOf s[0].toNat = n) (h : ext s[0].toNat n 1 (s.data.toList.drop 1) = k) (hk : k ≠ n) :
    one s.data.toList = (65533, k, false) := by
  have e := drop_byte s 0 h0
  rw [List.drop_zero] at e
  rw [e]
  subst hn
  simp only [one]
  simp only [Nat.zero_add] at h ⊢
  rw [if_neg (by omega), h]

/-- The world in the loop of first: the cells of size, of more and of the bounds. -/
structure FirstAt (w : World) (B : Nat) (a : Int) (n k : Nat) (wr : World) : Prop where
  below : Below w.heap.size w wr
  b0 : w.heap.size < B
  b1 : B + 1 < wr.heap.size
  size : wr.cell? ⟨w.heap.size, 0, none⟩ = some (.int .i64 k)
  more : wr.cell? ⟨B, 0, none⟩ = some (.int .i64 ((n : Int) - 1))
  lo0 : wr.cell? ⟨B + 1, 0, none⟩ = some (.int .u8 (lo a k))
  hi0 : wr.cell? ⟨B + 1, 1, none⟩ = some (.int .u8 (hi a k))
  f0 : wr.frozen? ⟨w.heap.size, 0, none⟩ = false
  f1 : wr.frozen? ⟨B + 1, 0, none⟩ = false
  f2 : wr.frozen? ⟨B + 1, 1, none⟩ = false

def FirstRel (s : ByteArray) (h0 : 0 < s.size) (n : Nat) (k : Nat) (v : Int) : Prop :=
  1 ≤ k ∧ k ≤ max n 1 ∧ k ≤ s.size ∧ ext s[0].toNat n 1 (s.data.toList.drop 1) = ext s[0].toNat n k (s.data.toList.drop k) ∧
  (n = 0 → v = 65533) ∧ (1 ≤ n → v = acc (headBits s[0].toNat n) ((s.data.toList.drop 1).take (k - 1))) ∧ 0 ≤ v ∧ v ≤ 17000000 ∧ (2 ≤ n → (k = 1 → v < 64) ∧ (k = 2 → v < 4096) ∧ (k = 3 → v < 262144))

def FirstPost (s : ByteArray) (w : World) (e : Ending) (w' : World) : Prop :=
  e = .returned (.tuple #[.int .i32 (one s.data.toList).1, .int .i64 ((one s.data.toList).2.1 : Nat), .bool (one s.data.toList).2.2]) ∧ Below w.heap.size w w'

theorem FirstAt.next {w wr w2 : World} {B : Nat} {a : Int} {n k : Nat} (h : FirstAt w B a n k wr) (hb : Below wr.heap.size wr w2) (h1 : 1 ≤ k) :
    FirstAt w B a n (k + 1) (((w2.setCell ⟨B + 1, 0, none⟩ (.int .u8 128)).setCell ⟨B + 1, 1, none⟩ (.int .u8 191)).setCell ⟨w.heap.size, 0, none⟩ (.int .i64 ((k : Int) + 1))) := by
  obtain ⟨ha, b0, b1, c0, c1, c2, c3, f0, f1, f2⟩ := h
  have hs := hb.size
  have n1 : (⟨B + 1, 0, none⟩ : Addr) ≠ ⟨w.heap.size, 0, none⟩ := fun e => by simp only [Addr.mk.injEq] at e; omega
  have n2 : (⟨B + 1, 1, none⟩ : Addr) ≠ ⟨w.heap.size, 0, none⟩ := fun e => by simp only [Addr.mk.injEq] at e; omega
  have n3 : (⟨w.heap.size, 0, none⟩ : Addr) ≠ ⟨B, 0, none⟩ := fun e => by simp only [Addr.mk.injEq] at e; omega
  have n4 : (⟨B + 1, 0, none⟩ : Addr) ≠ ⟨B, 0, none⟩ := fun e => by simp only [Addr.mk.injEq] at e; omega
  have n5 : (⟨B + 1, 1, none⟩ : Addr) ≠ ⟨B, 0, none⟩ := fun e => by simp only [Addr.mk.injEq] at e; omega
  have n6 : (⟨B + 1, 1, none⟩ : Addr) ≠ ⟨B + 1, 0, none⟩ := fun e => by simp only [Addr.mk.injEq] at e; omega
  have d0 := (hb.cell (p := ⟨w.heap.size, 0, none⟩) (by show w.heap.size < _; omega)).trans c0
  have d1 := (hb.cell (p := ⟨B, 0, none⟩) (by show B < _; omega)).trans c1
  have d2 := (hb.cell (p := ⟨B + 1, 0, none⟩) b1).trans c2
  have d3 := (hb.cell (p := ⟨B + 1, 1, none⟩) b1).trans c3
  constructor
  · exact (((ha.trans (hb.mono ha.size)).setCell (by show _ ≤ B + 1; omega) _).setCell (by show _ ≤ B + 1; omega) _).setCell (Nat.le_refl _) _
  · exact b0
  · simp; omega
  · rw [World.cell?_setCell_same' _ _ _ (by rw [World.cell?_setCell_other _ _ _ _ n2, World.cell?_setCell_other _ _ _ _ n1, d0]; rfl)]; rfl
  · rw [World.cell?_setCell_other _ _ _ _ n3, World.cell?_setCell_other _ _ _ _ n5, World.cell?_setCell_other _ _ _ _ n4, d1]
  · rw [World.cell?_setCell_other _ _ _ _ n1.symm, World.cell?_setCell_other _ _ _ _ n6, World.cell?_setCell_same' _ _ _ (by rw [d2]; rfl), lo_two _ _ (by omega)]
  · rw [World.cell?_setCell_other _ _ _ _ n2.symm, World.cell?_setCell_same' _ _ _ (by rw [World.cell?_setCell_other _ _ _ _ n6.symm, d3]; rfl), hi_two _ _ (by omega)]
  · simp only [World.frozen?_setCell]; exact (hb.frozen (p := ⟨w.heap.size, 0, none⟩) (by show w.heap.size < _; omega)).trans f0
  · simp only [World.frozen?_setCell]; exact (hb.frozen (p := ⟨B + 1, 0, none⟩) b1).trans f1
  · simp only [World.frozen?_setCell]; exact (hb.frozen (p := ⟨B + 1, 1, none⟩) b1).trans f2

theorem head_bound (a : Int) (n : Nat) (hn : lensOf a = n) (h0 : 0 ≤ a) : 0 ≤ leadBits a ∧ leadBits a ≤ 65533 ∧ (2 ≤ n → leadBits a < 64) := by
  unfold leadBits headBits
  unfold lensOf at *
  repeat' split at hn
  all_goals (subst hn; simp only [*, if_true, if_false]; first | (simp; done) | (simp; omega) | omega)

theorem FirstRel.start (s : ByteArray) (h0 : 0 < s.size) (n : Nat) (hn : lensOf s[0].toNat = n) : FirstRel s h0 n 1 (leadBits s[0].toNat) := by
  obtain ⟨b0, b1, b2⟩ := head_bound s[0].toNat n hn (by omega)
  refine ⟨Nat.le_refl _, by omega, by omega, rfl, fun e => ?_, fun e => ?_, b0, by omega, fun e => ⟨fun _ => b2 e, fun h => by omega, fun h => by omega⟩⟩
  · unfold leadBits; rw [if_pos (by omega)]
  · unfold leadBits; rw [if_neg (by omega), hn]; simp [acc]

theorem FirstRel.next {s : ByteArray} {h0 : 0 < s.size} {n k : Nat} {v : Int} (h : FirstRel s h0 n k v) (hk : k < n) (hn : n ≤ 4) (hs : k < s.size) (hf : fol s[0].toNat s[k].toNat k = true) :
    FirstRel s h0 n (k + 1) (64 * v + ((s[k].toNat : Int) - 128)) := by
  obtain ⟨h1, h2, h3, h4, h5, h6, h7, h8, h9⟩ := h
  have hb := fol_iff.1 hf
  have l1 := lo_ge s[0].toNat k
  have l2 := hi_le s[0].toNat k
  have h9' := h9 (by omega)
  refine ⟨by omega, by omega, by omega, ?_, fun e => by omega, fun e => ?_, by omega, by omega, fun e => ⟨fun _ => by omega, fun _ => by omega, fun _ => by omega⟩⟩
  · rw [h4, drop_byte s k hs, ext_good _ _ _ _ _ hk hf]
  · rw [Nat.add_sub_cancel, take_byte s k hs h1]
    unfold acc at h6 ⊢
    rw [List.foldl_append, ← h6 e]
    rfl

theorem FirstRel.stop {s : ByteArray} {h0 : 0 < s.size} {n k : Nat} {v : Int} (h : FirstRel s h0 n k v) (hn : lensOf s[0].toNat = n) (hk : k < n) (hs : s.size ≤ k ∨ ∃ hs : k < s.size, fol s[0].toNat s[k].toNat k = false) :
    one s.data.toList = (65533, k, false) := by
  obtain ⟨h1, h2, h3, h4, h5, h6, h7, h8, h9⟩ := h
  refine one_part s h0 n k hn ?_ (by omega)
  rw [h4]
  rcases hs with hs | ⟨hs, hf⟩
  · rw [drop_end s k hs, ext_nil]
  · rw [drop_byte s k hs, ext_bad _ _ _ _ _ hf]

theorem FirstRel.full {s : ByteArray} {h0 : 0 < s.size} {n k : Nat} {v : Int} (h : FirstRel s h0 n k v) (hn : lensOf s[0].toNat = n) (hk : ¬ k < n) :
    one s.data.toList = (v, k, decide (1 ≤ (n : Int))) := by
  obtain ⟨h1, h2, h3, h4, h5, h6, h7, h8, h9⟩ := h
  by_cases e : n = 0
  · subst e
    obtain rfl : k = 1 := by omega
    rw [one_part s h0 0 1 hn (by rw [h4, ext_full _ _ _ _ (by omega)]) (by omega), h5 rfl]
    rfl
  · obtain rfl : k = n := by omega
    rw [one_whole s h0 k hn (by rw [h4, ext_full _ _ _ _ (by omega)]), h6 h1]
    simp; omega

end Go.Proofs.YtcndcdkcbkjbaaaDoor

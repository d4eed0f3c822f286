/-
  The document's Map of layer 5, by their contracts.
-/
import Derived.Test.YtjhppkbaidcliaaDoorKMath
import Derived.Test.YtjhppkbaidcliaaDoorKBar
namespace Go.Proofs.YtjhppkbaidcliaaDoor
open Go.RowKit

/-- A slice that a call has laid anew. -/
theorem made_new (w : World) (l : List Int) (v : Value) (hv : v = .slice (some ⟨w.heap.size, 0, none⟩) l.length l.length) (hl : l.length ≤ 1000) : Made w (w.alloc (.cells (l.map (Value.int .i32)).toArray 21)) v l := by
  subst hv
  refine ⟨⟨by simp, .inr ⟨w.heap.size, l.length, (l.map (Value.int .i32)).toArray, rfl, Nat.le_refl _, heap_alloc_new w _, Nat.le_refl _, by simp only [maxLen]; omega, by simp, by simp [List.take_of_length_le]⟩⟩, (Below.refl _ _).alloc (Nat.le_refl _) _⟩
theorem made_one (w : World) (x y : Int) (h : x = y) : Made w (w.alloc (.cells #[.int .i32 x] 21)) (.slice (some ⟨w.heap.size, 0, none⟩) 1 1) [y] := by
  subst h
  exact made_new w [x] _ rfl (by simp)
theorem m_none {c : Int} (h : c = 173 ∨ c = 8203 ∨ c = 8288 ∨ c = 65279) : mapTo c = [] := by unfold mapTo; rw [if_pos h]
theorem m_dot {c : Int} (h : c = 12290 ∨ c = 65377) : mapTo c = [46] := by unfold mapTo; rw [if_neg (by omega), if_pos h]
theorem m_rest {c : Int} (h1 : ¬ (c = 173 ∨ c = 8203 ∨ c = 8288 ∨ c = 65279)) (h2 : ¬ (c = 12290 ∨ c = 65377)) : mapTo c = down (wide c) := by unfold mapTo; rw [if_neg h1, if_neg h2]
theorem wide_in {c : Int} (h : 65281 ≤ c ∧ c ≤ 65374) : wide c = c - 65248 := by unfold wide; rw [if_pos h]
theorem wide_out {c : Int} (h : ¬ (65281 ≤ c ∧ c ≤ 65374)) : wide c = c := by unfold wide; rw [if_neg h]
theorem m_wcap {c : Int} (h : 65313 ≤ c ∧ c ≤ 65338) : mapTo c = [c - 65216] := by
  rw [m_rest (by omega) (by omega), wide_in (by omega)]
  unfold down
  rw [if_pos (by unfold Cap; omega)]
  congr 1; omega
theorem m_wide {c : Int} (h : 65281 ≤ c ∧ c ≤ 65374) (h1 : ¬ (65313 ≤ c ∧ c ≤ 65338)) : mapTo c = [c - 65248] := by
  rw [m_rest (by omega) (by omega), wide_in h]
  unfold down
  rw [if_neg (by unfold Cap; omega), if_neg (by omega), if_neg (by omega)]
theorem m_cap {c : Int} (h : Cap c) : mapTo c = [c + 32] := by
  have h' := h
  unfold Cap at h'
  rw [m_rest (by omega) (by omega), wide_out (by omega)]
  unfold down
  rw [if_pos h]
theorem m_cyr {c : Int} (h : 1024 ≤ c ∧ c ≤ 1039) : mapTo c = [c + 80] := by
  rw [m_rest (by omega) (by omega), wide_out (by omega)]
  unfold down
  rw [if_neg (by unfold Cap; omega), if_pos h]
theorem m_ss {c : Int} (h : c = 7838) : mapTo c = [115, 115] := by subst h; decide
theorem m_self {c : Int} (h1 : ¬ (c = 173 ∨ c = 8203 ∨ c = 8288 ∨ c = 65279)) (h2 : ¬ (c = 12290 ∨ c = 65377)) (h3 : ¬ (65281 ≤ c ∧ c ≤ 65374)) (h4 : ¬ Cap c) (h5 : ¬ (1024 ≤ c ∧ c ≤ 1039)) (h6 : c ≠ 7838) : mapTo c = [c] := by
  rw [m_rest h1 h2, wide_out h3]
  unfold down
  rw [if_neg h4, if_neg h5, if_neg h6]

def MapBad (w : World) (e : Ending) (w' : World) : Prop := e = .returned (.tuple #[.slice none 0 0, .bool false]) ∧ Below w.heap.size w w'
def MapGood (l : List Int) (w : World) (e : Ending) (w' : World) : Prop := ∃ v, e = .returned (.tuple #[v, .bool true]) ∧ Made w w' v l

theorem barred_is {c : Int} {b : Bool} (w : World) (h : decide (Barred c) = b) : Calls Tryd.prog 20 #[.int .i32 c] w fun e w' => e = .returned (.bool b) ∧ w = w' := h ▸ barred_any c w

set_option maxHeartbeats 400000 in
theorem map_bad (c : Int) (w : World) (h : Barred c) : Calls Tryd.prog 10 #[.int .i32 c] w (MapBad w) := by
  have HB := Lib.hid (decide_eq_true h)
  clear h
  go_enter Tryd.func10, Tryd.ntmps10
  go_wp2_with (go_at_call 20; refine (barred_is _ HB.out).mono ?_; rintro e w' ⟨rfl, rfl⟩)
  go_ret2
  exact ⟨rfl, Below.refl _ _⟩

set_option maxHeartbeats 2000000 in
set_option maxRecDepth 100000 in
theorem map_good (c : Int) (w : World) (h : ¬ Barred c) : Calls Tryd.prog 10 #[.int .i32 c] w (MapGood (mapTo c) w) := by
  have HB := Lib.hid (decide_eq_false h)
  have h0 : 0 ≤ c ∧ c ≤ 1114111 := by unfold Barred at h; omega
  obtain ⟨h0, h1⟩ := h0
  clear h
  go_enter Tryd.func10, Tryd.ntmps10
  go_wp2_with (go_at_call 20; refine (barred_is _ HB.out).mono ?_; rintro e w' ⟨rfl, rfl⟩)
  all_goals
    go_ret2
    try simp only [beq_iff_eq, beq_eq_false_iff_ne, ne_eq] at *
    first
    | (rw [m_none (by omega)]; exact ⟨_, rfl, World.ownsRow_nil _ _ _ _, Below.refl _ _⟩)
    | (rw [m_dot (by omega)]; exact ⟨_, rfl, made_one w _ 46 (by omega)⟩)
    | (rw [m_wcap (by omega)]; exact ⟨_, rfl, made_one w _ (c - 65216) (by omega)⟩)
    | (rw [m_wide (by omega) (by omega)]; exact ⟨_, rfl, made_one w _ (c - 65248) (by omega)⟩)
    | (rw [m_cap (by unfold Cap; omega)]; exact ⟨_, rfl, made_one w _ (c + 32) (by omega)⟩)
    | (rw [m_cyr (by omega)]; exact ⟨_, rfl, made_one w _ (c + 80) (by omega)⟩)
    | (rw [m_ss (by omega)]; exact ⟨_, rfl, made_new w [115, 115] _ rfl (by simp)⟩)
    | (rw [m_self (by omega) (by omega) (by omega) (by unfold Cap; omega) (by omega) (by omega)]; exact ⟨_, rfl, made_one w _ c (by omega)⟩)
    | (rw [show mapTo 215 = [215] by decide]; exact ⟨_, rfl, made_one w _ 215 (by omega)⟩)
    | (rw [show mapTo 930 = [930] by decide]; exact ⟨_, rfl, made_one w _ 930 (by omega)⟩)
    | (rw [show mapTo 7838 = [115, 115] by decide]; exact ⟨_, rfl, made_new w [115, 115] _ rfl (by simp)⟩)
end Go.Proofs.YtjhppkbaidcliaaDoor

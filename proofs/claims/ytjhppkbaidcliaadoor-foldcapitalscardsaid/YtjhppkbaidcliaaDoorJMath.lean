/-
  Why the program's tables tell what the document does; why it composes as it goes.
-/
import Derived.Test.YtjhppkbaidcliaaDoorKVar
import Derived.Test.YtjhppkbaidcliaaDoorKMap
import Derived.Test.YtjhppkbaidcliaaDoorKFold
namespace Go.Proofs.YtjhppkbaidcliaaDoor

/-- What a span tells of a number that it holds. -/
def Tells (c : Int) (k d : Int) : Prop :=
  (k = 1 ∧ Barred c) ∨ (k = 2 ∧ ¬ Barred c ∧ mapTo c = []) ∨ (k = 3 ∧ ¬ Barred c ∧ mapTo c = [46]) ∨ (k = 4 ∧ 65281 ≤ c ∧ c ≤ 65374) ∨ (k = 5 ∧ ¬ Barred c ∧ mapTo c = [115, 115]) ∨
    (k = 0 ∧ ¬ Barred c ∧ mapTo c = [c + d] ∧ 0 ≤ c ∧ c < 1114112 ∧ 0 ≤ d ∧ d ≤ 80)
theorem t_bar {c d : Int} (h : Barred c) : Tells c 1 d := .inl ⟨rfl, h⟩
theorem t_none {c d : Int} (hb : ¬ Barred c) (h : c = 173 ∨ c = 8203 ∨ c = 8288 ∨ c = 65279) : Tells c 2 d := .inr (.inl ⟨rfl, hb, m_none h⟩)
theorem t_dot {c d : Int} (hb : ¬ Barred c) (h : c = 12290 ∨ c = 65377) : Tells c 3 d := .inr (.inr (.inl ⟨rfl, hb, m_dot h⟩))
theorem t_wide {c d : Int} (h1 : 65281 ≤ c) (h2 : c ≤ 65374) : Tells c 4 d := .inr (.inr (.inr (.inl ⟨rfl, h1, h2⟩)))
theorem t_ss {c d : Int} (hb : ¬ Barred c) (h : c = 7838) : Tells c 5 d := .inr (.inr (.inr (.inr (.inl ⟨rfl, hb, m_ss h⟩))))
theorem t_cap {c : Int} (hb : ¬ Barred c) (h : Cap c) : Tells c 0 32 := .inr (.inr (.inr (.inr (.inr ⟨rfl, hb, m_cap h, by unfold Barred at hb; omega, by unfold Barred at hb; omega, by omega, by omega⟩))))
theorem t_cyr {c : Int} (hb : ¬ Barred c) (h : 1024 ≤ c ∧ c ≤ 1039) : Tells c 0 80 := .inr (.inr (.inr (.inr (.inr ⟨rfl, hb, m_cyr h, by omega, by omega, by omega, by omega⟩))))
theorem span_tells {c : Int} {i : Nat} (h : Holds c i) : Tells c (spanAt i).2.2.1 (spanAt i).2.2.2 := by
  obtain ⟨hi, h1, h2⟩ := h
  match i, hi, h1, h2 with
  | 0, _, h1, h2 =>
    have h1 : (-2147483648 : Int) ≤ c := h1
    have h2 : c ≤ -1 := h2
    exact t_bar (by unfold Barred; omega)
  | 1, _, h1, h2 =>
    have h1 : (65 : Int) ≤ c := h1
    have h2 : c ≤ 90 := h2
    exact t_cap (by unfold Barred; omega) (by unfold Cap; omega)
  | 2, _, h1, h2 =>
    have h1 : (128 : Int) ≤ c := h1
    have h2 : c ≤ 160 := h2
    exact t_bar (by unfold Barred; omega)
  | 3, _, h1, h2 =>
    have h1 : (173 : Int) ≤ c := h1
    have h2 : c ≤ 173 := h2
    exact t_none (by unfold Barred; omega) (by omega)
  | 4, _, h1, h2 =>
    have h1 : (192 : Int) ≤ c := h1
    have h2 : c ≤ 214 := h2
    exact t_cap (by unfold Barred; omega) (by unfold Cap; omega)
  | 5, _, h1, h2 =>
    have h1 : (216 : Int) ≤ c := h1
    have h2 : c ≤ 222 := h2
    exact t_cap (by unfold Barred; omega) (by unfold Cap; omega)
  | 6, _, h1, h2 =>
    have h1 : (913 : Int) ≤ c := h1
    have h2 : c ≤ 929 := h2
    exact t_cap (by unfold Barred; omega) (by unfold Cap; omega)
  | 7, _, h1, h2 =>
    have h1 : (931 : Int) ≤ c := h1
    have h2 : c ≤ 937 := h2
    exact t_cap (by unfold Barred; omega) (by unfold Cap; omega)
  | 8, _, h1, h2 =>
    have h1 : (1024 : Int) ≤ c := h1
    have h2 : c ≤ 1039 := h2
    exact t_cyr (by unfold Barred; omega) (by omega)
  | 9, _, h1, h2 =>
    have h1 : (1040 : Int) ≤ c := h1
    have h2 : c ≤ 1071 := h2
    exact t_cap (by unfold Barred; omega) (by unfold Cap; omega)
  | 10, _, h1, h2 =>
    have h1 : (5760 : Int) ≤ c := h1
    have h2 : c ≤ 5760 := h2
    exact t_bar (by unfold Barred; omega)
  | 11, _, h1, h2 =>
    have h1 : (7838 : Int) ≤ c := h1
    have h2 : c ≤ 7838 := h2
    exact t_ss (by unfold Barred; omega) (by omega)
  | 12, _, h1, h2 =>
    have h1 : (8192 : Int) ≤ c := h1
    have h2 : c ≤ 8202 := h2
    exact t_bar (by unfold Barred; omega)
  | 13, _, h1, h2 =>
    have h1 : (8203 : Int) ≤ c := h1
    have h2 : c ≤ 8203 := h2
    exact t_none (by unfold Barred; omega) (by omega)
  | 14, _, h1, h2 =>
    have h1 : (8206 : Int) ≤ c := h1
    have h2 : c ≤ 8207 := h2
    exact t_bar (by unfold Barred; omega)
  | 15, _, h1, h2 =>
    have h1 : (8232 : Int) ≤ c := h1
    have h2 : c ≤ 8239 := h2
    exact t_bar (by unfold Barred; omega)
  | 16, _, h1, h2 =>
    have h1 : (8287 : Int) ≤ c := h1
    have h2 : c ≤ 8287 := h2
    exact t_bar (by unfold Barred; omega)
  | 17, _, h1, h2 =>
    have h1 : (8288 : Int) ≤ c := h1
    have h2 : c ≤ 8288 := h2
    exact t_none (by unfold Barred; omega) (by omega)
  | 18, _, h1, h2 =>
    have h1 : (8294 : Int) ≤ c := h1
    have h2 : c ≤ 8297 := h2
    exact t_bar (by unfold Barred; omega)
  | 19, _, h1, h2 =>
    have h1 : (12290 : Int) ≤ c := h1
    have h2 : c ≤ 12290 := h2
    exact t_dot (by unfold Barred; omega) (by omega)
  | 20, _, h1, h2 =>
    have h1 : (55296 : Int) ≤ c := h1
    have h2 : c ≤ 57343 := h2
    exact t_bar (by unfold Barred; omega)
  | 21, _, h1, h2 =>
    have h1 : (57344 : Int) ≤ c := h1
    have h2 : c ≤ 63743 := h2
    exact t_bar (by unfold Barred; omega)
  | 22, _, h1, h2 =>
    have h1 : (64976 : Int) ≤ c := h1
    have h2 : c ≤ 65007 := h2
    exact t_bar (by unfold Barred; omega)
  | 23, _, h1, h2 =>
    have h1 : (65279 : Int) ≤ c := h1
    have h2 : c ≤ 65279 := h2
    exact t_none (by unfold Barred; omega) (by omega)
  | 24, _, h1, h2 =>
    have h1 : (65281 : Int) ≤ c := h1
    have h2 : c ≤ 65374 := h2
    exact t_wide (by omega) (by omega)
  | 25, _, h1, h2 =>
    have h1 : (65377 : Int) ≤ c := h1
    have h2 : c ≤ 65377 := h2
    exact t_dot (by unfold Barred; omega) (by omega)
  | 26, _, h1, h2 =>
    have h1 : (65529 : Int) ≤ c := h1
    have h2 : c ≤ 65535 := h2
    exact t_bar (by unfold Barred; omega)
  | 27, _, h1, h2 =>
    have h1 : (917504 : Int) ≤ c := h1
    have h2 : c ≤ 2147483647 := h2
    exact t_bar (by unfold Barred; omega)
  | i + 28, hi, _, _ => omega
theorem free_tells {c : Int} (h : Free c) (h0 : -2147483648 ≤ c) (h1 : c < 2147483648) : ¬ Barred c ∧ mapTo c = [c] ∧ 0 ≤ c ∧ c < 1114112 := by
  have f0 : c < -2147483648 ∨ -1 < c := h 0 (by omega)
  have f1 : c < 65 ∨ 90 < c := h 1 (by omega)
  have f2 : c < 128 ∨ 160 < c := h 2 (by omega)
  have f3 : c < 173 ∨ 173 < c := h 3 (by omega)
  have f4 : c < 192 ∨ 214 < c := h 4 (by omega)
  have f5 : c < 216 ∨ 222 < c := h 5 (by omega)
  have f6 : c < 913 ∨ 929 < c := h 6 (by omega)
  have f7 : c < 931 ∨ 937 < c := h 7 (by omega)
  have f8 : c < 1024 ∨ 1039 < c := h 8 (by omega)
  have f9 : c < 1040 ∨ 1071 < c := h 9 (by omega)
  have f10 : c < 5760 ∨ 5760 < c := h 10 (by omega)
  have f11 : c < 7838 ∨ 7838 < c := h 11 (by omega)
  have f12 : c < 8192 ∨ 8202 < c := h 12 (by omega)
  have f13 : c < 8203 ∨ 8203 < c := h 13 (by omega)
  have f14 : c < 8206 ∨ 8207 < c := h 14 (by omega)
  have f15 : c < 8232 ∨ 8239 < c := h 15 (by omega)
  have f16 : c < 8287 ∨ 8287 < c := h 16 (by omega)
  have f17 : c < 8288 ∨ 8288 < c := h 17 (by omega)
  have f18 : c < 8294 ∨ 8297 < c := h 18 (by omega)
  have f19 : c < 12290 ∨ 12290 < c := h 19 (by omega)
  have f20 : c < 55296 ∨ 57343 < c := h 20 (by omega)
  have f21 : c < 57344 ∨ 63743 < c := h 21 (by omega)
  have f22 : c < 64976 ∨ 65007 < c := h 22 (by omega)
  have f23 : c < 65279 ∨ 65279 < c := h 23 (by omega)
  have f24 : c < 65281 ∨ 65374 < c := h 24 (by omega)
  have f25 : c < 65377 ∨ 65377 < c := h 25 (by omega)
  have f26 : c < 65529 ∨ 65535 < c := h 26 (by omega)
  have f27 : c < 917504 ∨ 2147483647 < c := h 27 (by omega)
  clear h
  refine ⟨by unfold Barred; omega, m_self (by omega) (by omega) (by omega) (by unfold Cap; omega) (by omega) (by omega), by omega, by omega⟩
theorem wide_back {c : Int} (h1 : 65281 ≤ c) (h2 : c ≤ 65374) : ¬ Barred c ∧ ¬ Barred (c - 65248) ∧ mapTo (c - 65248) = mapTo c := by
  refine ⟨by unfold Barred; omega, by unfold Barred; omega, ?_⟩
  rw [m_rest (c := c) (by omega) (by omega), m_rest (c := c - 65248) (by omega) (by omega), wide_in ⟨h1, h2⟩, wide_out (by omega)]

/-! Pairs. -/
theorem made_at : ∀ i, i < 8 → ∀ j, j < 7 → madeAt i j = madeOf (letterTab.getD i 0) (markTab.getD j 0) := by decide +kernel
theorem pairs_in : ∀ p ∈ pairs, (∃ i, i < 8 ∧ letterTab.getD i 0 = p.1) ∧ ∃ j, j < 7 ∧ markTab.getD j 0 = p.2.1 := by decide +kernel
theorem made_none {a m : Int} (h : ∀ j, j < 7 → ∀ i, i < 8 → ¬ (markTab.getD j 0 = m ∧ letterTab.getD i 0 = a)) : madeOf a m = 0 := by
  by_cases e : madeOf a m = 0
  · exact e
  · obtain ⟨⟨i, hi, h1⟩, j, hj, h2⟩ := pairs_in _ (madeIn_ne e)
    exact absurd ⟨h2, h1⟩ (h j hj i hi)

/-! Composing as it goes. -/
/-- A code point behind a list that is composed. -/
def cadd (l : List Int) (x : Int) : List Int := match l.getLast? with
  | none => [x]
  | some a => if madeOf a x = 0 then l ++ [x] else l.dropLast ++ [madeOf a x]
theorem cadd_nil (x : Int) : cadd [] x = [x] := rfl
theorem cadd_cons {a : Int} {l : List Int} (x : Int) (h : l ≠ []) : cadd (a :: l) x = a :: cadd l x := by
  obtain ⟨y, t, rfl⟩ := List.exists_cons_of_ne_nil h
  unfold cadd
  rw [List.getLast?_cons_cons]
  cases e : (y :: t).getLast? with
  | none => simp at e
  | some z =>
    simp only
    split
    · rfl
    · simp [List.dropLast]
theorem comp_snoc (x : Int) : ∀ (n : Nat) (l : List Int), l.length ≤ n → comp (l ++ [x]) = cadd (comp l) x := by
  intro n
  induction n with
  | zero => intro l h; rw [List.eq_nil_of_length_eq_zero (l := l) (by omega)]; rfl
  | succ n ih =>
    intro l h
    match l, h with
    | [], _ => rfl
    | [a], _ =>
      by_cases e : madeOf a x = 0
      · show comp (a :: x :: []) = _
        rw [comp_keep e]
        simp [comp, cadd, e]
      · show comp (a :: x :: []) = _
        rw [comp_pair e]
        simp [comp, cadd, e]
    | a :: b :: t, h =>
      simp only [List.length_cons] at h
      by_cases e : madeOf a b = 0
      · rw [comp_keep e, cadd_cons x (comp_ne b t), ← ih (b :: t) (by simp only [List.length_cons]; omega)]
        show comp (a :: b :: (t ++ [x])) = _
        rw [comp_keep e]
        rfl
      · rw [comp_pair e]
        show comp (a :: b :: (t ++ [x])) = _
        rw [comp_pair e, ih t (by omega)]
        by_cases ht : comp t = []
        · rw [ht]
          simp [cadd, made_left e]
        · rw [cadd_cons x ht]
theorem cadd_length (l : List Int) (x : Int) : (cadd l x).length ≤ l.length + 1 := by
  unfold cadd
  split
  · simp
  · split
    · simp
    · simp
end Go.Proofs.YtjhppkbaidcliaaDoor

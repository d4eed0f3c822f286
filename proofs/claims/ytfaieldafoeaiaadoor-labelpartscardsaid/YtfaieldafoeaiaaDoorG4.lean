/-
  In this text, one behind the other: JMath, JTell, JPair, JAdd, JBox, FIs, KCon, JTop, JFold, NCon, LAll, LCon, HCheck, HOne.
-/
import Derived.Test.YtfaieldafoeaiaaDoorG1
import Derived.Test.YtfaieldafoeaiaaDoorG3
import Derived.Test.YtfaieldafoeaiaaDoorG2
/-
  Why the program's tables tell what the document does; why it composes as it goes.
-/
namespace Go.Proofs.YtfaieldafoeaiaaDoor

/-- What a span tells of a number that it holds. -/
def Tells (c : Int) (k d : Int) : Prop :=
  (k = 1 ∧ Barred c) ∨ (k = 2 ∧ ¬ Barred c ∧ mapTo c = []) ∨ (k = 3 ∧ ¬ Barred c ∧ mapTo c = [46]) ∨ (k = 4 ∧ 65281 ≤ c ∧ c ≤ 65374) ∨ (k = 5 ∧ ¬ Barred c ∧ mapTo c = [115, 115]) ∨
    (k = 0 ∧ ¬ Barred c ∧ mapTo c = [c + d] ∧ 0 ≤ c ∧ c < 1114112 ∧ 0 ≤ d ∧ d ≤ 80)
theorem t_bar {c d : Int} (h : Barred c) : Tells c 1 d := .inl ⟨rfl, h⟩
theorem t_none {c d : Int} (hb : ¬ Barred c) (h : c = 173 ∨ c = 8203 ∨ c = 8288 ∨ c = 65279) : Tells c 2 d := .inr (.inl ⟨rfl, hb, m_none h⟩)
theorem t_dot {c d : Int} (hb : ¬ Barred c) (h : c = 12290 ∨ c = 65377) : Tells c 3 d := .inr (.inr (.inl ⟨rfl, hb, m_dot h⟩))
theorem t_wide {c d : Int} (h1 : 65281 ≤ c) (h2 : c ≤ 65374) : Tells c 4 d := .inr (.inr (.inr (.inl ⟨rfl, h1, h2⟩)))
theorem t_ss {c d : Int} (hb : ¬ Barred c) (h : c = 7838) : Tells c 5 d := .inr (.inr (.inr (.inr (.inl ⟨rfl, hb, m_ss h⟩))))
theorem t_cap {c : Int} (hb : ¬ Barred c) (h : Cap c) : Tells c 0 32 := .inr (.inr (.inr (.inr (.inr ⟨rfl, hb, m_cap h, by unfold Barred at hb; omega, by unfold Barred at hb; omega, by omega, by omega⟩))))
theorem t_cyr {c : Int} (hb : ¬ Barred c) (h : 1024 ≤ c ∧ c ≤ 1039) : Tells c 0 80 := .inr (.inr (.inr (.inr (.inr ⟨rfl, hb, m_cyr h, by omega, by omega, by omega, by omega⟩))))
theorem span_tells {c : Int} {i : Nat} (h : Holds c i) : Tells c (spanAt i).2.2.1 (spanAt i).2.2.2 := by
  obtain ⟨hi, h1, h2⟩ := h
  match i, hi, h1, h2 with
  | 0, _, h1, h2 =>
    have h1 : (-2147483648 : Int) ≤ c := h1
    have h2 : c ≤ -1 := h2
    exact t_bar (by unfold Barred; omega)
  | 1, _, h1, h2 =>
    have h1 : (65 : Int) ≤ c := h1
    have h2 : c ≤ 90 := h2
    exact t_cap (by unfold Barred; omega) (by unfold Cap; omega)
  | 2, _, h1, h2 =>
    have h1 : (128 : Int) ≤ c := h1
    have h2 : c ≤ 160 := h2
    exact t_bar (by unfold Barred; omega)
  | 3, _, h1, h2 =>
    have h1 : (173 : Int) ≤ c := h1
    have h2 : c ≤ 173 := h2
    exact t_none (by unfold Barred; omega) (by omega)
  | 4, _, h1, h2 =>
    have h1 : (192 : Int) ≤ c := h1
    have h2 : c ≤ 214 := h2
    exact t_cap (by unfold Barred; omega) (by unfold Cap; omega)
  | 5, _, h1, h2 =>
    have h1 : (216 : Int) ≤ c := h1
    have h2 : c ≤ 222 := h2
    exact t_cap (by unfold Barred; omega) (by unfold Cap; omega)
  | 6, _, h1, h2 =>
    have h1 : (913 : Int) ≤ c := h1
    have h2 : c ≤ 929 := h2
    exact t_cap (by unfold Barred; omega) (by unfold Cap; omega)
  | 7, _, h1, h2 =>
    have h1 : (931 : Int) ≤ c := h1
    have h2 : c ≤ 937 := h2
    exact t_cap (by unfold Barred; omega) (by unfold Cap; omega)
  | 8, _, h1, h2 =>
    have h1 : (1024 : Int) ≤ c := h1
    have h2 : c ≤ 1039 := h2
    exact t_cyr (by unfold Barred; omega) (by omega)
  | 9, _, h1, h2 =>
    have h1 : (1040 : Int) ≤ c := h1
    have h2 : c ≤ 1071 := h2
    exact t_cap (by unfold Barred; omega) (by unfold Cap; omega)
  | 10, _, h1, h2 =>
    have h1 : (5760 : Int) ≤ c := h1
    have h2 : c ≤ 5760 := h2
    exact t_bar (by unfold Barred; omega)
  | 11, _, h1, h2 =>
    have h1 : (7838 : Int) ≤ c := h1
    have h2 : c ≤ 7838 := h2
    exact t_ss (by unfold Barred; omega) (by omega)
  | 12, _, h1, h2 =>
    have h1 : (8192 : Int) ≤ c := h1
    have h2 : c ≤ 8202 := h2
    exact t_bar (by unfold Barred; omega)
  | 13, _, h1, h2 =>
    have h1 : (8203 : Int) ≤ c := h1
    have h2 : c ≤ 8203 := h2
    exact t_none (by unfold Barred; omega) (by omega)
  | 14, _, h1, h2 =>
    have h1 : (8206 : Int) ≤ c := h1
    have h2 : c ≤ 8207 := h2
    exact t_bar (by unfold Barred; omega)
  | 15, _, h1, h2 =>
    have h1 : (8232 : Int) ≤ c := h1
    have h2 : c ≤ 8239 := h2
    exact t_bar (by unfold Barred; omega)
  | 16, _, h1, h2 =>
    have h1 : (8287 : Int) ≤ c := h1
    have h2 : c ≤ 8287 := h2
    exact t_bar (by unfold Barred; omega)
  | 17, _, h1, h2 =>
    have h1 : (8288 : Int) ≤ c := h1
    have h2 : c ≤ 8288 := h2
    exact t_none (by unfold Barred; omega) (by omega)
  | 18, _, h1, h2 =>
    have h1 : (8294 : Int) ≤ c := h1
    have h2 : c ≤ 8297 := h2
    exact t_bar (by unfold Barred; omega)
  | 19, _, h1, h2 =>
    have h1 : (12290 : Int) ≤ c := h1
    have h2 : c ≤ 12290 := h2
    exact t_dot (by unfold Barred; omega) (by omega)
  | 20, _, h1, h2 =>
    have h1 : (55296 : Int) ≤ c := h1
    have h2 : c ≤ 57343 := h2
    exact t_bar (by unfold Barred; omega)
  | 21, _, h1, h2 =>
    have h1 : (57344 : Int) ≤ c := h1
    have h2 : c ≤ 63743 := h2
    exact t_bar (by unfold Barred; omega)
  | 22, _, h1, h2 =>
    have h1 : (64976 : Int) ≤ c := h1
    have h2 : c ≤ 65007 := h2
    exact t_bar (by unfold Barred; omega)
  | 23, _, h1, h2 =>
    have h1 : (65279 : Int) ≤ c := h1
    have h2 : c ≤ 65279 := h2
    exact t_none (by unfold Barred; omega) (by omega)
  | 24, _, h1, h2 =>
    have h1 : (65281 : Int) ≤ c := h1
    have h2 : c ≤ 65374 := h2
    exact t_wide (by omega) (by omega)
  | 25, _, h1, h2 =>
    have h1 : (65377 : Int) ≤ c := h1
    have h2 : c ≤ 65377 := h2
    exact t_dot (by unfold Barred; omega) (by omega)
  | 26, _, h1, h2 =>
    have h1 : (65529 : Int) ≤ c := h1
    have h2 : c ≤ 65535 := h2
    exact t_bar (by unfold Barred; omega)
  | 27, _, h1, h2 =>
    have h1 : (917504 : Int) ≤ c := h1
    have h2 : c ≤ 2147483647 := h2
    exact t_bar (by unfold Barred; omega)
  | i + 28, hi, _, _ => omega
theorem free_tells {c : Int} (h : Free c) (h0 : -2147483648 ≤ c) (h1 : c < 2147483648) : ¬ Barred c ∧ mapTo c = [c] ∧ 0 ≤ c ∧ c < 1114112 := by
  have f0 : c < -2147483648 ∨ -1 < c := h 0 (by omega)
  have f1 : c < 65 ∨ 90 < c := h 1 (by omega)
  have f2 : c < 128 ∨ 160 < c := h 2 (by omega)
  have f3 : c < 173 ∨ 173 < c := h 3 (by omega)
  have f4 : c < 192 ∨ 214 < c := h 4 (by omega)
  have f5 : c < 216 ∨ 222 < c := h 5 (by omega)
  have f6 : c < 913 ∨ 929 < c := h 6 (by omega)
  have f7 : c < 931 ∨ 937 < c := h 7 (by omega)
  have f8 : c < 1024 ∨ 1039 < c := h 8 (by omega)
  have f9 : c < 1040 ∨ 1071 < c := h 9 (by omega)
  have f10 : c < 5760 ∨ 5760 < c := h 10 (by omega)
  have f11 : c < 7838 ∨ 7838 < c := h 11 (by omega)
  have f12 : c < 8192 ∨ 8202 < c := h 12 (by omega)
  have f13 : c < 8203 ∨ 8203 < c := h 13 (by omega)
  have f14 : c < 8206 ∨ 8207 < c := h 14 (by omega)
  have f15 : c < 8232 ∨ 8239 < c := h 15 (by omega)
  have f16 : c < 8287 ∨ 8287 < c := h 16 (by omega)
  have f17 : c < 8288 ∨ 8288 < c := h 17 (by omega)
  have f18 : c < 8294 ∨ 8297 < c := h 18 (by omega)
  have f19 : c < 12290 ∨ 12290 < c := h 19 (by omega)
  have f20 : c < 55296 ∨ 57343 < c := h 20 (by omega)
  have f21 : c < 57344 ∨ 63743 < c := h 21 (by omega)
  have f22 : c < 64976 ∨ 65007 < c := h 22 (by omega)
  have f23 : c < 65279 ∨ 65279 < c := h 23 (by omega)
  have f24 : c < 65281 ∨ 65374 < c := h 24 (by omega)
  have f25 : c < 65377 ∨ 65377 < c := h 25 (by omega)
  have f26 : c < 65529 ∨ 65535 < c := h 26 (by omega)
  have f27 : c < 917504 ∨ 2147483647 < c := h 27 (by omega)
  clear h
  refine ⟨by unfold Barred; omega, m_self (by omega) (by omega) (by omega) (by unfold Cap; omega) (by omega) (by omega), by omega, by omega⟩
theorem wide_back {c : Int} (h1 : 65281 ≤ c) (h2 : c ≤ 65374) : ¬ Barred c ∧ ¬ Barred (c - 65248) ∧ mapTo (c - 65248) = mapTo c := by
  refine ⟨by unfold Barred; omega, by unfold Barred; omega, ?_⟩
  rw [m_rest (c := c) (by omega) (by omega), m_rest (c := c - 65248) (by omega) (by omega), wide_in ⟨h1, h2⟩, wide_out (by omega)]

/-! Pairs. -/
theorem made_at : ∀ i, i < 8 → ∀ j, j < 7 → madeAt i j = madeOf (letterTab.getD i 0) (markTab.getD j 0) := by decide +kernel
theorem pairs_in : ∀ p ∈ pairs, (∃ i, i < 8 ∧ letterTab.getD i 0 = p.1) ∧ ∃ j, j < 7 ∧ markTab.getD j 0 = p.2.1 := by decide +kernel
theorem made_none {a m : Int} (h : ∀ j, j < 7 → ∀ i, i < 8 → ¬ (markTab.getD j 0 = m ∧ letterTab.getD i 0 = a)) : madeOf a m = 0 := by
  by_cases e : madeOf a m = 0
  · exact e
  · obtain ⟨⟨i, hi, h1⟩, j, hj, h2⟩ := pairs_in _ (madeIn_ne e)
    exact absurd ⟨h2, h1⟩ (h j hj i hi)

/-! Composing as it goes. -/
/-- A code point behind a list that is composed. -/
def cadd (l : List Int) (x : Int) : List Int := match l.getLast? with
  | none => [x]
  | some a => if madeOf a x = 0 then l ++ [x] else l.dropLast ++ [madeOf a x]
theorem cadd_nil (x : Int) : cadd [] x = [x] := rfl
theorem cadd_cons {a : Int} {l : List Int} (x : Int) (h : l ≠ []) : cadd (a :: l) x = a :: cadd l x := by
  obtain ⟨y, t, rfl⟩ := List.exists_cons_of_ne_nil h
  unfold cadd
  rw [List.getLast?_cons_cons]
  cases e : (y :: t).getLast? with
  | none => simp at e
  | some z =>
    simp only
    split
    · rfl
    · simp [List.dropLast]
theorem comp_snoc (x : Int) : ∀ (n : Nat) (l : List Int), l.length ≤ n → comp (l ++ [x]) = cadd (comp l) x := by
  intro n
  induction n with
  | zero => intro l h; rw [List.eq_nil_of_length_eq_zero (l := l) (by omega)]; rfl
  | succ n ih =>
    intro l h
    match l, h with
    | [], _ => rfl
    | [a], _ =>
      by_cases e : madeOf a x = 0
      · show comp (a :: x :: []) = _
        rw [comp_keep e]
        simp [comp, cadd, e]
      · show comp (a :: x :: []) = _
        rw [comp_pair e]
        simp [comp, cadd, e]
    | a :: b :: t, h =>
      simp only [List.length_cons] at h
      by_cases e : madeOf a b = 0
      · rw [comp_keep e, cadd_cons x (comp_ne b t), ← ih (b :: t) (by simp only [List.length_cons]; omega)]
        show comp (a :: b :: (t ++ [x])) = _
        rw [comp_keep e]
        rfl
      · rw [comp_pair e]
        show comp (a :: b :: (t ++ [x])) = _
        rw [comp_pair e, ih t (by omega)]
        by_cases ht : comp t = []
        · rw [ht]
          simp [cadd, made_left e]
        · rw [cadd_cons x ht]
theorem cadd_length (l : List Int) (x : Int) : (cadd l x).length ≤ l.length + 1 := by
  unfold cadd
  split
  · simp
  · split
    · simp
    · simp
end Go.Proofs.YtfaieldafoeaiaaDoor

/-
  tell: what a code point is mapped to, handed on one by one; at the closures of Map and of Fold.
-/
namespace Go.Proofs.YtfaieldafoeaiaaDoor
open Go.RowKit

theorem span_apart : ∀ i, i < 28 → ∀ j, j < 28 → i < j → (spanAt i).2.1 < (spanAt j).1 := by decide +kernel
theorem holds_one {c : Int} {i j : Nat} (h : Holds c i) (k : Holds c j) : i = j := by
  obtain ⟨h0, h1, h2⟩ := h
  obtain ⟨k0, k1, k2⟩ := k
  rcases Nat.lt_trichotomy i j with h | h | h
  · have := span_apart i h0 j k0 h; omega
  · exact h
  · have := span_apart j k0 i h0 h; omega
/-- What spanOf tells of a number, whatever the world. -/
def SpanIs (c a b k d : Int) : Prop := ∀ w : World, Vars w → Calls Tryd.prog 57 #[.int .i32 c] w fun e w' => e = .returned (.agg #[.int .i32 a, .int .i32 b, .int .i64 k, .int .i32 d]) ∧ Below w.heap.size w w'
theorem span_is (c : Int) (h0 : -2147483648 ≤ c) (h1 : c < 2147483648) : ∃ a b k d, SpanIs c a b k d ∧ Tells c k d := by
  by_cases h : ∃ i, Holds c i
  · obtain ⟨i, hi⟩ := h
    refine ⟨(spanAt i).1, (spanAt i).2.1, (spanAt i).2.2.1, (spanAt i).2.2.2, fun w hv => (spanOf_any c w hv).mono ?_, span_tells hi⟩
    rintro e w' ⟨⟨j, hj, rfl⟩ | ⟨hf, rfl⟩, hb⟩
    · rw [holds_one hi hj]; exact ⟨rfl, hb⟩
    · obtain ⟨x, y, z⟩ := hi
      have := hf i x
      omega
  · refine ⟨0, 0, 0, 0, fun w hv => (spanOf_any c w hv).mono ?_, ?_⟩
    · rintro e w' ⟨⟨j, hj, rfl⟩ | ⟨hf, rfl⟩, hb⟩
      · exact absurd ⟨j, hj⟩ h
      · exact ⟨rfl, hb⟩
    · have hf : Free c := fun i hi => by
        rcases Int.lt_or_le c (spanAt i).1 with x | x
        · exact .inl x
        · rcases Int.lt_or_le (spanAt i).2.1 c with y | y
          · exact .inr y
          · exact absurd ⟨i, hi, x, y⟩ h
      obtain ⟨a, b, e, f⟩ := free_tells hf h0 h1
      exact .inr (.inr (.inr (.inr (.inr ⟨rfl, a, by rw [b]; simp, e, f, by omega, by omega⟩))))
theorem span_wide (c : Int) (h0 : 65281 ≤ c) (h1 : c ≤ 65374) : ∃ a b d, SpanIs c a b 4 d := by
  have hi : Holds c 24 := ⟨by omega, h0, h1⟩
  refine ⟨65281, 65374, 0, fun w hv => (spanOf_any c w hv).mono ?_⟩
  rintro e w' ⟨⟨j, hj, rfl⟩ | ⟨hf, rfl⟩, hb⟩
  · rw [← holds_one hi hj]; exact ⟨rfl, hb⟩
  · obtain ⟨x, y, z⟩ := hi
    have := hf 24 x
    omega

def TellPostJ (I : List Int → World → Prop) (acc : List Int) (c : Int) (e : Ending) (w' : World) : Prop :=
  (Barred c ∧ e = .returned (.bool false) ∧ I acc w') ∨ (¬ Barred c ∧ e = .returned (.bool true) ∧ I (acc ++ mapTo c) w')
/-- What is asked of a closure that is handed code points: something of the world that new memory leaves as it is, and that a call takes one further. -/
structure Takes (f : Nat) (p : Addr) (I : List Int → World → Prop) : Prop where
  carry : ∀ acc w w', I acc w → Below w.heap.size w w' → I acc w'
  vars : ∀ acc w, I acc w → Vars w
  call : ∀ acc x w, I acc w → acc.length ≤ 2990 → Calls Tryd.prog f #[.int .i32 x, .pointer (some p)] w fun e w' => e = .returned (.tuple #[]) ∧ I (acc ++ [x]) w'

set_option maxHeartbeats 1000000 in
set_option maxRecDepth 100000 in
theorem tell_flat_fold (p : Addr) (I : List Int → World → Prop) (T : Takes 31 p I) (c : Int) (acc : List Int) (w : World) (hi : I acc w) (hl : acc.length ≤ 2900) (h0 : -2147483648 ≤ c) (h1 : c < 2147483648) (hn : ¬ (65281 ≤ c ∧ c ≤ 65374)) :
    Calls Tryd.prog 33 #[.int .i32 c, .func (.func 31) #[] #[.pointer (some p)]] w (TellPostJ I acc c) := by
  obtain ⟨a, b, k, d, hs, ht⟩ := span_is c h0 h1
  have HT := Lib.hid T
  have HS := Lib.hid hs
  have HI := Lib.hid hi
  clear T hs hi
  rcases ht with ⟨rfl, hb⟩ | ⟨rfl, hb, hm⟩ | ⟨rfl, hb, hm⟩ | ⟨_, hx⟩ | ⟨rfl, hb, hm⟩ | ⟨rfl, hb, hm, hc0, hc1, hd0, hd1⟩
  · have HBd := Lib.hid hb
    clear hb
    go_enter Tryd.func33, Tryd.ntmps33
    go_wp2_with (first
      | (go_at_call 57; refine (HS.out _ (HT.out.vars _ _ HI.out)).mono ?_; rintro e w1 ⟨rfl, hb⟩; have HI1 := Lib.hid (HT.out.carry _ _ _ (HT.out.carry _ _ _ HI.out hb) ((Below.refl _ _).alloc (Nat.le_refl _) (.cells #[.int .i32 a, .int .i32 b, .int .i64 1, .int .i32 d] 99))); clear hb))
    go_ret
    exact .inl ⟨HBd.out, rfl, HI1.out⟩
  · have HBd := Lib.hid hb
    have HM := Lib.hid hm
    clear hb hm
    go_enter Tryd.func33, Tryd.ntmps33
    go_wp2_with (first
      | (go_at_call 57; refine (HS.out _ (HT.out.vars _ _ HI.out)).mono ?_; rintro e w1 ⟨rfl, hb⟩; have HI1 := Lib.hid (HT.out.carry _ _ _ (HT.out.carry _ _ _ HI.out hb) ((Below.refl _ _).alloc (Nat.le_refl _) (.cells #[.int .i32 a, .int .i32 b, .int .i64 2, .int .i32 d] 99))); clear hb))
    go_ret
    exact .inr ⟨HBd.out, rfl, by rw [HM.out, List.append_nil]; exact HI1.out⟩
  · have HBd := Lib.hid hb
    have HM := Lib.hid hm
    clear hb hm
    go_enter Tryd.func33, Tryd.ntmps33
    go_wp2_with (first
      | (go_at_call 57; refine (HS.out _ (HT.out.vars _ _ HI.out)).mono ?_; rintro e w1 ⟨rfl, hb⟩; have HI1 := Lib.hid (HT.out.carry _ _ _ (HT.out.carry _ _ _ HI.out hb) ((Below.refl _ _).alloc (Nat.le_refl _) (.cells #[.int .i32 a, .int .i32 b, .int .i64 3, .int .i32 d] 99))); clear hb)
      | (go_at_call 31; refine (HT.out.call acc _ _ HI1.out (by omega)).mono ?_; rintro e w2 ⟨rfl, hi2⟩; have HI2 := Lib.hid hi2; clear hi2))
    go_ret
    exact .inr ⟨HBd.out, rfl, by rw [HM.out]; exact HI2.out⟩
  · omega
  · have HBd := Lib.hid hb
    have HM := Lib.hid hm
    clear hb hm
    go_enter Tryd.func33, Tryd.ntmps33
    go_wp2_with (first
      | (go_at_call 57; refine (HS.out _ (HT.out.vars _ _ HI.out)).mono ?_; rintro e w1 ⟨rfl, hb⟩; have HI1 := Lib.hid (HT.out.carry _ _ _ (HT.out.carry _ _ _ HI.out hb) ((Below.refl _ _).alloc (Nat.le_refl _) (.cells #[.int .i32 a, .int .i32 b, .int .i64 5, .int .i32 d] 99))); clear hb)
      | (go_at_call 31; refine (HT.out.call (acc ++ [115]) _ _ HI2.out (by simp; omega)).mono ?_; rintro e w3 ⟨rfl, hi3⟩; have HI3 := Lib.hid hi3; clear hi3)
      | (go_at_call 31; refine (HT.out.call acc _ _ HI1.out (by omega)).mono ?_; rintro e w2 ⟨rfl, hi2⟩; have HI2 := Lib.hid hi2; clear hi2))
    go_ret
    exact .inr ⟨HBd.out, rfl, by rw [HM.out]; have := HI3.out; rw [List.append_assoc] at this; exact this⟩
  · have HBd := Lib.hid hb
    have HM := Lib.hid hm
    clear hb hm
    go_enter Tryd.func33, Tryd.ntmps33
    go_wp2_with (first
      | (go_at_call 57; refine (HS.out _ (HT.out.vars _ _ HI.out)).mono ?_; rintro e w1 ⟨rfl, hb⟩; have HI1 := Lib.hid (HT.out.carry _ _ _ (HT.out.carry _ _ _ HI.out hb) ((Below.refl _ _).alloc (Nat.le_refl _) (.cells #[.int .i32 a, .int .i32 b, .int .i64 0, .int .i32 d] 99))); clear hb)
      | (go_at_call 31; refine (HT.out.call acc _ _ HI1.out (by omega)).mono ?_; rintro e w2 ⟨rfl, hi2⟩; have HI2 := Lib.hid hi2; clear hi2))
    go_ret
    exact .inr ⟨HBd.out, rfl, by rw [HM.out]; exact HI2.out⟩

set_option maxHeartbeats 1000000 in
set_option maxRecDepth 100000 in
theorem tell_fold (p : Addr) (I : List Int → World → Prop) (T : Takes 31 p I) (c : Int) (acc : List Int) (w : World) (hi : I acc w) (hl : acc.length ≤ 2900) (h0 : -2147483648 ≤ c) (h1 : c < 2147483648) :
    Calls Tryd.prog 33 #[.int .i32 c, .func (.func 31) #[] #[.pointer (some p)]] w (TellPostJ I acc c) := by
  by_cases hn : 65281 ≤ c ∧ c ≤ 65374
  · obtain ⟨a, b, d, hs⟩ := span_wide c hn.1 hn.2
    obtain ⟨hw1, hw2, hw3⟩ := wide_back hn.1 hn.2
    have HT := Lib.hid T
    have HS := Lib.hid hs
    have HI := Lib.hid hi
    have HW := Lib.hid (And.intro hw1 (And.intro hw2 hw3))
    clear T hs hi hw1 hw2 hw3
    obtain ⟨n1, n2⟩ := hn
    go_enter Tryd.func33, Tryd.ntmps33
    go_wp2_with (first
      | (go_at_call 57; refine (HS.out _ (HT.out.vars _ _ HI.out)).mono ?_; rintro e w1 ⟨rfl, hb⟩; have HI1 := Lib.hid (HT.out.carry _ _ _ (HT.out.carry _ _ _ HI.out hb) ((Below.refl _ _).alloc (Nat.le_refl _) (.cells #[.int .i32 a, .int .i32 b, .int .i64 4, .int .i32 d] 99))); clear hb)
      | (go_at_call 33; refine (tell_flat_fold p I HT.out (c - 65248) acc _ HI1.out hl (by omega) (by omega) (by omega)).mono ?_
         rintro e w2 (⟨hb, _⟩ | ⟨_, rfl, hi2⟩)
         · exact absurd hb HW.out.2.1
         have HI2 := Lib.hid hi2; clear hi2))
    go_ret
    exact .inr ⟨HW.out.1, rfl, by rw [← HW.out.2.2]; exact HI2.out⟩
  · exact tell_flat_fold p I T c acc w hi hl h0 h1 hn
end Go.Proofs.YtfaieldafoeaiaaDoor

/-
  pair: what a letter and a mark make.
-/
namespace Go.Proofs.YtfaieldafoeaiaaDoor
open Go.RowKit

theorem index_marks : ∀ k, k < 7 → ∀ W, Sem.run Tryd.prog (Instr.index 126 (.agg #[.int .i32 768, .int .i32 769, .int .i32 770, .int .i32 771, .int .i32 776, .int .i32 778, .int .i32 807]) (.int .i64 (k : Nat))) W = .ok (.int .i32 (markTab.getD k 0)) W := by
  intro k hk W
  match k, hk with
  | 0, _ => show Sem.run _ _ W = _; kernel_rfl
  | 1, _ => show Sem.run _ _ W = _; kernel_rfl
  | 2, _ => show Sem.run _ _ W = _; kernel_rfl
  | 3, _ => show Sem.run _ _ W = _; kernel_rfl
  | 4, _ => show Sem.run _ _ W = _; kernel_rfl
  | 5, _ => show Sem.run _ _ W = _; kernel_rfl
  | 6, _ => show Sem.run _ _ W = _; kernel_rfl
theorem index_letters : ∀ k, k < 8 → ∀ W, Sem.run Tryd.prog (Instr.index 127 (.agg #[.int .i32 97, .int .i32 99, .int .i32 101, .int .i32 105, .int .i32 110, .int .i32 111, .int .i32 117, .int .i32 121]) (.int .i64 (k : Nat))) W = .ok (.int .i32 (letterTab.getD k 0)) W := by
  intro k hk W
  match k, hk with
  | 0, _ => show Sem.run _ _ W = _; kernel_rfl
  | 1, _ => show Sem.run _ _ W = _; kernel_rfl
  | 2, _ => show Sem.run _ _ W = _; kernel_rfl
  | 3, _ => show Sem.run _ _ W = _; kernel_rfl
  | 4, _ => show Sem.run _ _ W = _; kernel_rfl
  | 5, _ => show Sem.run _ _ W = _; kernel_rfl
  | 6, _ => show Sem.run _ _ W = _; kernel_rfl
  | 7, _ => show Sem.run _ _ W = _; kernel_rfl

set_option maxHeartbeats 1000000 in
set_option maxRecDepth 100000 in
theorem pair_any (a m : Int) (w : World) (hv : Vars w) : Calls Tryd.prog 56 #[.int .i32 a, .int .i32 m] w fun e w' => e = .returned (.int .i32 (madeOf a m)) ∧ Below w.heap.size w w' := by
  have HV := Lib.hid hv
  have m0 : w.cell? ⟨1, 0, none⟩ = some (.int .i32 768) := hv.marks 0 (by omega)
  have m1 : w.cell? ⟨1, 1, none⟩ = some (.int .i32 769) := hv.marks 1 (by omega)
  have m2 : w.cell? ⟨1, 2, none⟩ = some (.int .i32 770) := hv.marks 2 (by omega)
  have m3 : w.cell? ⟨1, 3, none⟩ = some (.int .i32 771) := hv.marks 3 (by omega)
  have m4 : w.cell? ⟨1, 4, none⟩ = some (.int .i32 776) := hv.marks 4 (by omega)
  have m5 : w.cell? ⟨1, 5, none⟩ = some (.int .i32 778) := hv.marks 5 (by omega)
  have m6 : w.cell? ⟨1, 6, none⟩ = some (.int .i32 807) := hv.marks 6 (by omega)
  clear hv
  go_enter Tryd.func56, Tryd.ntmps56
  go_wp2
  clear m0 m1 m2 m3 m4 m5 m6
  go_loopw [4, 10] (fun v4 i wr => ∃ k : Nat, k ≤ 7 ∧ v4 = .int .i32 0 ∧ i = .int .i64 k ∧ Below w.heap.size w wr ∧ ∀ j, j < k → ∀ r, r < 8 → ¬ (markTab.getD j 0 = m ∧ letterTab.getD r 0 = a)) (fun _ i _ => 7 - (intOf i).toNat)
  case atStart => exact ⟨0, by omega, rfl, rfl, Below.refl _ _, fun j hj => by omega⟩
  case round =>
    obtain ⟨k, hk, rfl, rfl, hb, hno⟩ := hrel
    have HN := Lib.hid hno
    have HB := Lib.hid hb
    have hvr := HV.out.below hb
    clear hno hb
    by_cases hlt : k < 7
    · have hix := index_marks k hlt
      obtain ⟨x, hx⟩ : ∃ x, markTab.getD k 0 = x := ⟨_, rfl⟩
      rw [hx] at hix
      by_cases hxm : x = m
      · subst hxm
        have HX := Lib.hid hx
        clear hx
        have n0 : wr.cell? ⟨2, 0, none⟩ = some (.int .i32 97) := hvr.letters 0 (by omega)
        have n1 : wr.cell? ⟨2, 1, none⟩ = some (.int .i32 99) := hvr.letters 1 (by omega)
        have n2 : wr.cell? ⟨2, 2, none⟩ = some (.int .i32 101) := hvr.letters 2 (by omega)
        have n3 : wr.cell? ⟨2, 3, none⟩ = some (.int .i32 105) := hvr.letters 3 (by omega)
        have n4 : wr.cell? ⟨2, 4, none⟩ = some (.int .i32 110) := hvr.letters 4 (by omega)
        have n5 : wr.cell? ⟨2, 5, none⟩ = some (.int .i32 111) := hvr.letters 5 (by omega)
        have n6 : wr.cell? ⟨2, 6, none⟩ = some (.int .i32 117) := hvr.letters 6 (by omega)
        have n7 : wr.cell? ⟨2, 7, none⟩ = some (.int .i32 121) := hvr.letters 7 (by omega)
        have HR := Lib.hid hvr
        clear hvr
        go_wp2
        clear n0 n1 n2 n3 n4 n5 n6 n7
        go_loopw [4, 18] (fun v4 i ws => ∃ r : Nat, r ≤ 8 ∧ v4 = .int .i32 0 ∧ i = .int .i64 r ∧ Below wr.heap.size wr ws ∧ ∀ j, j < r → letterTab.getD j 0 ≠ a) (fun _ i _ => 8 - (intOf i).toNat)
        case atStart => exact ⟨0, by omega, rfl, rfl, Below.refl _ _, fun j hj => by omega⟩
        case round =>
          obtain ⟨r, hr, rfl, rfl, hb, hno⟩ := hrel
          have HN2 := Lib.hid hno
          have HB2 := Lib.hid hb
          have hvr := HR.out.below hb
          clear hno hb
          by_cases hlr : r < 8
          · have hiy := index_letters r hlr
            obtain ⟨y, hy⟩ : ∃ y, letterTab.getD r 0 = y := ⟨_, rfl⟩
            rw [hy] at hiy
            by_cases hya : y = a
            · subst hya
              have hmk := hvr.made r k hlr hlt
              rw [made_at r hlr k hlt, hy, HX.out] at hmk
              clear hy hvr
              go_wp2
              go_ret
              exact ⟨rfl, HB.out.trans (HB2.out.mono HB.out.size)⟩
            · have HY := Lib.hid hy
              clear hy hvr
              go_wp2
              refine ⟨⟨r + 1, by omega, rfl, by go_num, HB2.out, fun j hj => ?_⟩, by simp [intOf]; omega⟩
              rcases Nat.lt_or_ge j r with h | h
              · exact HN2.out j h
              · obtain rfl : j = r := by omega
                rw [HY.out]; exact hya
          · clear hvr
            go_wp2
            refine ⟨⟨k + 1, by omega, rfl, by go_num, HB.out.trans (HB2.out.mono HB.out.size), fun j hj i hi => ?_⟩, by simp [intOf]; omega⟩
            rcases Nat.lt_or_ge j k with h | h
            · exact HN.out j h i hi
            · exact fun e => HN2.out i (by omega) e.2
      · have HX := Lib.hid hx
        clear hx hvr
        go_wp2
        refine ⟨⟨k + 1, by omega, rfl, by go_num, HB.out, fun j hj i hi => ?_⟩, by simp [intOf]; omega⟩
        rcases Nat.lt_or_ge j k with h | h
        · exact HN.out j h i hi
        · obtain rfl : j = k := by omega
          rw [HX.out]; exact fun e => hxm e.1
    · clear hvr
      go_wp2
      go_ret
      exact ⟨by rw [made_none (fun j hj i hi => HN.out j (by omega) i hi)]; rfl, HB.out⟩
end Go.Proofs.YtfaieldafoeaiaaDoor

/-
  add: a code point behind a list that is composed.
-/
namespace Go.Proofs.YtfaieldafoeaiaaDoor
open Go.RowKit

def AddPost (B : Nat) (l : List Int) (x : Int) (w : World) (e : Ending) (w' : World) : Prop := ∃ v, e = .returned v ∧ RowN B w' v (cadd l x) ∧ Below B w w'
theorem pair_is {a m z : Int} (h : madeOf a m = z) (w : World) (hv : Vars w) : Calls Tryd.prog 56 #[.int .i32 a, .int .i32 m] w fun e w' => e = .returned (.int .i32 z) ∧ Below w.heap.size w w' := h ▸ pair_any a m w hv
theorem cadd_keep {t : List Int} {a x : Int} (h : madeOf a x = 0) : cadd (t ++ [a]) x = (t ++ [a]) ++ [x] := by unfold cadd; simp [h]
theorem cadd_pair {t : List Int} {a x : Int} (h : madeOf a x ≠ 0) : cadd (t ++ [a]) x = t ++ [madeOf a x] := by unfold cadd; simp [h]

set_option maxHeartbeats 1000000 in
set_option maxRecDepth 100000 in
theorem add_none (B : Nat) (v : Value) (x : Int) (w : World) (hrow : RowN B w v []) (hB : B ≤ w.heap.size) :
    Calls Tryd.prog 32 #[v, .int .i32 x] w (AddPost B [] x w) := by
  obtain ⟨A, cap, rfl⟩ : ∃ A cap, v = .slice A 0 cap := by
    rcases hrow.2 with ⟨h, _⟩ | ⟨g, cap, cur, h, _⟩
    · exact ⟨_, _, h⟩
    · exact ⟨_, _, h⟩
  have HR := Lib.hid hrow
  clear hrow
  go_enter Tryd.func32, Tryd.ntmps32
  go_wp2_with (at_builtin
               refine append_from rfl (.tmp 25) (.tmp 27) rfl B _ [] (some ⟨w.heap.size, 0, none⟩) 1 1 [x] rfl rfl (HR.out.below ((Below.refl _ _).alloc (Nat.le_refl _) _)) (runes_one w x) rfl (fun h => by cases h) (by simp) (by simp; omega) ?_
               intro v' w' hr' hb'
               have HP := Lib.hid (And.intro hr' (((Below.refl B w).alloc hB _).trans hb'))
               clear hr' hb')
  go_ret
  exact ⟨_, rfl, HP.out.1, HP.out.2⟩

set_option maxHeartbeats 1000000 in
set_option maxRecDepth 100000 in
theorem add_some (B : Nat) (v : Value) (t : List Int) (a x : Int) (w : World) (hv : Vars w) (hrow : RowN B w v (t ++ [a])) (hB : B ≤ w.heap.size) (hl : t.length ≤ 3000) :
    Calls Tryd.prog 32 #[v, .int .i32 x] w (AddPost B (t ++ [a]) x w) := by
  obtain ⟨g, cap, rfl⟩ : ∃ g cap, v = .slice (some ⟨g, 0, none⟩) (t.length + 1) cap := by
    rcases hrow.2 with ⟨h, h0⟩ | ⟨g, cap, cur, h, _⟩
    · simp at h0
    · exact ⟨g, cap, by simpa using h⟩
  have hrow' : w.ownsRow B 21 1 (.slice (some ⟨g, 0, none⟩) (t.length + 1) cap) (t.length + 1) ((t ++ [a]).map (Value.int .i32)) := by
    have := hrow
    unfold RowN at this
    simpa using this
  have hc : w.cell? ⟨g, t.length, none⟩ = some (.int .i32 a) := by
    rw [hrow'.cellAt t.length (by omega)]
    simp
  have hg : g < w.heap.size ∧ B ≤ g := by
    have := hrow'.lt g rfl
    omega
  have HV := Lib.hid hv
  have HR := Lib.hid hrow'
  have HN0 := Lib.hid hrow
  clear hv hrow hrow'
  by_cases hz : madeOf a x = 0
  · have HZ := Lib.hid hz
    clear hz
    go_enter Tryd.func32, Tryd.ntmps32
    go_wp2_with (first
      | (go_at_call 56; refine (pair_is HZ.out _ HV.out).mono ?_; rintro e w1 ⟨rfl, hb⟩; have HB := Lib.hid hb; clear hb)
      | (at_builtin
         refine append_from rfl (.tmp 25) (.tmp 27) rfl B _ (t ++ [a]) (some ⟨w1.heap.size, 0, none⟩) 1 1 [x] rfl rfl ?h1 (runes_one w1 x) rfl (fun h => by cases h) ?h2 ?h3 ?_
         case h1 => exact HN0.out.below (HB.out.alloc HB.out.size (.cells #[.int .i32 x] 21))
         case h2 => simp; omega
         case h3 => have := HB.out.size; simp; omega
         intro v' w' hr' hb'
         have HP := Lib.hid (And.intro hr' (((HB.out.mono hB).alloc (Nat.le_trans hB HB.out.size) _).trans hb'))
         clear hr' hb'))
    go_ret
    exact ⟨_, rfl, by rw [cadd_keep HZ.out]; exact HP.out.1, HP.out.2⟩
  · obtain ⟨z, hz1⟩ : ∃ z, madeOf a x = z := ⟨_, rfl⟩
    have HN := Lib.hid hz
    rw [hz1] at hz
    have HZ := Lib.hid hz1
    clear hz1
    go_enter Tryd.func32, Tryd.ntmps32
    go_wp2_with (first
      | (go_at_call 56; refine (pair_is HZ.out _ HV.out).mono ?_; rintro e w1 ⟨rfl, hb⟩
         have hro := own_below HR.out hb
         have hc1 := (hb.cell (p := ⟨g, t.length, none⟩) hg.1).trans hc
         have hf1 := hro.frozenAt t.length
         have HO := Lib.hid hro
         have HB := Lib.hid hb; clear hb hro hc))
    go_ret
    obtain ⟨h1, h2⟩ := HO.out.stored t.length (.int .i32 z)
    refine ⟨_, rfl, ?_, ?_⟩
    · rw [cadd_pair HN.out, HZ.out]
      unfold RowN
      have : ((t ++ [a]).map (Value.int .i32)).set t.length (.int .i32 z) = (t ++ [z]).map (Value.int .i32) := by
        rw [List.map_append, List.map_append, List.set_append_right _ _ (by simp)]
        simp
      rw [this] at h1
      simpa using h1
    · exact (HB.out.mono hB).setCell (by simpa using hg.2) _
theorem add_any (B : Nat) (v : Value) (l : List Int) (x : Int) (w : World) (hv : Vars w) (hrow : RowN B w v l) (hB : B ≤ w.heap.size) (hl : l.length ≤ 3000) :
    Calls Tryd.prog 32 #[v, .int .i32 x] w (AddPost B l x w) := by
  rcases List.eq_nil_or_concat l with rfl | ⟨t, a, rfl⟩
  · exact add_none B v x w hrow hB
  · rw [List.concat_eq_append] at hrow hl ⊢
    exact add_some B v t a x w hv hrow hB (by simp at hl; omega)
end Go.Proofs.YtfaieldafoeaiaaDoor

/-
  The closures of Map and of Fold: a slice in a box that grows.
-/
namespace Go.Proofs.YtfaieldafoeaiaaDoor
open Go.RowKit

/-- A box in block pb, made since w0, holds a slice of the call's own, behind it, that reads as g of what was handed on. -/
structure BoxI (w0 : World) (pb : Nat) (g : List Int → List Int) (acc : List Int) (w : World) : Prop where
  vars : Vars w
  old : Below w0.heap.size w0 w
  ge : w0.heap.size ≤ pb
  lt : pb + 1 ≤ w.heap.size
  nil : acc = [] → w.heap[pb]? = some (.cells #[.slice none 0 0] 22 (0, 0))
  box : ∃ v, w.heap[pb]? = some (.cells #[v] 22 (0, 0)) ∧ RowN (pb + 1) w v (g acc)
theorem BoxI.carry {w0 : World} {pb : Nat} {g : List Int → List Int} {acc : List Int} {w w' : World} (h : BoxI w0 pb g acc w) (hb : Below w.heap.size w w') : BoxI w0 pb g acc w' := by
  obtain ⟨v, h1, h2⟩ := h.box
  exact ⟨h.vars.below hb, h.old.trans (hb.mono h.old.size), h.ge, Nat.le_trans h.lt hb.size, fun e => (hb.block pb h.lt).trans (h.nil e), v, (hb.block pb h.lt).trans h1, h2.below hb⟩
/-- Behind the store of a new slice into the box. -/
theorem BoxI.put {w0 : World} {pb : Nat} {g : List Int → List Int} {acc acc' : List Int} {w w' : World} {v' : Value} (h : BoxI w0 pb g acc w) (hv0 : Vars w0) (hb : Below (pb + 1) w w') (hr : RowN (pb + 1) w' v' (g acc')) (hne : acc' ≠ []) :
    BoxI w0 pb g acc' (w'.setCell ⟨pb, 0, none⟩ v') := by
  obtain ⟨v, h1, h2⟩ := h.box
  have hge := h.ge
  have hb0 : Below w0.heap.size w w' := hb.mono (by omega)
  have hb1 : Below w0.heap.size w (w'.setCell ⟨pb, 0, none⟩ v') := hb0.setCell (by simpa using hge) _
  have hp : w'.heap[pb]? = some (.cells #[v] 22 (0, 0)) := (hb.block pb (by omega)).trans h1
  refine ⟨h.vars.belowB hv0 hb1, h.old.trans hb1, hge, ?_, fun e => absurd e hne, v', ?_, ?_⟩
  · have := hb.size; have := h.lt; simp; omega
  · have := heap_setCell_same w' pb 0 #[v] 22 v' hp
    simpa using this
  · exact ownsRow_setCell_below hr (by simp) v'
theorem BoxI.cell {w0 : World} {pb : Nat} {g : List Int → List Int} {acc : List Int} {w : World} (h : BoxI w0 pb g acc w) : ∃ v, w.cell? ⟨pb, 0, none⟩ = some v ∧ w.frozen? ⟨pb, 0, none⟩ = false ∧ RowN (pb + 1) w v (g acc) := by
  obtain ⟨v, h1, h2⟩ := h.box
  obtain ⟨a, b⟩ := spot_at h1 0 rfl
  exact ⟨v, a, b, h2⟩

theorem RowN.shape {B : Nat} {w : World} {v : Value} {l : List Int} (h : RowN B w v l) : ∃ A n c, v = .slice A n c := by
  rcases h.2 with ⟨h, _⟩ | ⟨g, cap, cur, h, _⟩
  · exact ⟨_, _, _, h⟩
  · exact ⟨_, _, _, h⟩

theorem comp_add (acc : List Int) (x : Int) : cadd (comp acc) x = comp (acc ++ [x]) := (comp_snoc x acc.length acc (Nat.le_refl _)).symm

set_option maxHeartbeats 1000000 in
set_option maxRecDepth 100000 in
theorem fold1_any (w0 : World) (hv0 : Vars w0) (pb : Nat) (acc : List Int) (x : Int) (w : World) (h : BoxI w0 pb comp acc w) (hl : acc.length ≤ 2990) :
    Calls Tryd.prog 31 #[.int .i32 x, .pointer (some ⟨pb, 0, none⟩)] w fun e w' => e = .returned (.tuple #[]) ∧ BoxI w0 pb comp (acc ++ [x]) w' := by
  obtain ⟨v, hc, hf, hr⟩ := h.cell
  have hlt := h.lt
  have hl2 : (comp acc).length ≤ 3000 := Nat.le_trans (comp_length acc.length acc (Nat.le_refl _)) (by omega)
  have HI := Lib.hid h
  have HV := Lib.hid hv0
  have HR := Lib.hid hr
  have HL := Lib.hid hl2
  clear h hv0 hr hl2
  go_enter Tryd.func31, Tryd.ntmps31
  go_wp2_with (go_at_call 32; refine (add_any (pb + 1) v (comp acc) x _ HI.out.vars HR.out hlt HL.out).mono ?_
               rintro e w' ⟨v', rfl, hr', hbb⟩
               obtain ⟨A', n', c', hvv⟩ := hr'.shape
               subst hvv
               have hc' := (hbb.cell (p := ⟨pb, 0, none⟩) (Nat.lt_succ_self pb)).trans hc
               have hf' := (hbb.frozen (p := ⟨pb, 0, none⟩) (Nat.lt_succ_self pb)).trans hf
               rw [comp_add] at hr'
               have HP := Lib.hid (And.intro hr' hbb)
               clear hr' hbb hc hf)
  go_end0
  exact ⟨rfl, HI.out.put HV.out HP.out.2 HP.out.1 (by simp)⟩
theorem takes_fold (w0 : World) (hv0 : Vars w0) (pb : Nat) : Takes 31 ⟨pb, 0, none⟩ (BoxI w0 pb comp) :=
  ⟨fun _ _ _ h hb => h.carry hb, fun _ _ h => h.vars, fun acc x w h hl => fold1_any w0 hv0 pb acc x w h hl⟩
end Go.Proofs.YtfaieldafoeaiaaDoor

/-
  errors.is and errors.Is, of a chain that ends in a number, against a number.
-/
namespace Go.Proofs.YtfaieldafoeaiaaDoor
open Go.RowKit Go.Extern.Stop Go.Stop Go.Extern

theorem eql_in (P : Program) (w : World) (d : Nat) {ti tn : TypeId} {ms : Array (String × TypeId)} {i : TypeInfo} {k : IntKind} (a b : Int)
    (hi : P.underlying ti = some (.interface ms)) (hn : P.underlying tn = some (.int k)) (hinfo : P.info? tn = some i) (hcomp : i.comparable = true) :
    (Op.equalIn (d + 2) ti (.iface tn (.int k a)) (.iface tn (.int k b))).run P w = .ok (a == b) w := by
  simp [Op.equalIn, run_underlying hi, run_underlying hn, typeInfo, hinfo, hcomp]
/-- Two numbers of one type, as values of an interface. -/
theorem eql_numbers (a b : Int) (w : World) : (binOp .eql 25 (.iface 30 (.int .i64 a)) (.iface 30 (.int .i64 b))).run Tryd.prog w = .ok (.bool (a == b)) w := by
  obtain ⟨i, hi, hc⟩ := Option.map_eq_some_iff.1 (show (Tryd.prog.info? 30).map (·.comparable) = some true by kernel_rfl)
  simp only [binOp]
  simp [Op.equal, Op.maxDepth, eql_in Tryd.prog w 9998 a b Tryd.underlying25 Tryd.underlying30 hi hc]
theorem eql_types (p : Addr) (b : Int) (w : World) : (binOp .eql 25 (.iface 101 (.pointer (some p))) (.iface 30 (.int .i64 b))).run Tryd.prog w = .ok (.bool false) w :=
  run_eql_iface_types _ _ _ _ Tryd.underlying25 (by decide) w
theorem comparableE (w : World) : (callFunc 109 #[.agg #[.pointer (some ⟨6, 30, none⟩)]]).run Tryd.prog w = .ok (.value (.bool true)) w := by kernel_rfl

def IsRel (w : World) (n : Int) (k : Nat) (p : Value) (wr : World) : Prop := wr = w ∧ ∃ cs, cs.length = k ∧ Chain w cs (some n) p

set_option maxHeartbeats 4000000 in
set_option maxRecDepth 100000 in
theorem is1_any (cs : List ByteArray) (n m : Int) (u : TypeId) (x : Value) (w : World) (hc : Chain w cs (some n) (.iface u x)) :
    Calls Tryd.prog 30 #[.iface u x, .iface 30 (.int .i64 m), .bool true] w fun e w' => e = .returned (.bool (n == m)) ∧ w = w' := by
  have HC := Lib.hid hc
  clear hc
  have mU := methodUnwrap
  have isE := assertIsE
  have isF := assertIsF
  have o1E := assertOneE
  have o1F := assertOneF
  have omE := assertManyE
  have eN := eql_numbers
  have eT := eql_types
  go_enter Tryd.func30, Tryd.ntmps30
  go_wp2
  go_loopg [0] cs.length (fun k p wr => IsRel w n k p wr)
  case atStart => exact ⟨rfl, cs, rfl, HC.out⟩
  case round =>
    obtain ⟨rfl, ds, hk, hch⟩ := hrel
    cases ds with
    | nil =>
      obtain rfl : _ = Value.iface 30 (.int .i64 n) := hch
      clear hk
      by_cases hnm : (n == m) = true
      · go_wp2
        go_ret
        exact ⟨by rw [hnm]; rfl, rfl⟩
      · have hf : (n == m) = false := by simpa using hnm
        clear hnm
        go_wp2
        go_ret
        exact ⟨by rw [hf]; rfl, rfl⟩
    | cons d ds =>
      obtain ⟨b, v', rfl, hlt, hc0, hc1, hrest⟩ := hch
      obtain ⟨u2, x2, rfl⟩ := hrest.held
      have HR := Lib.hid hrest
      have HK := Lib.hid hk
      clear hrest hk
      go_wp2_with (go_at_call 119; refine (unwrap_at b _ _ hc1).mono ?_; rintro e w' ⟨rfl, rfl⟩)
      go_roundg ds.length
      case measure => rw [← HK.out]; simp
      case rel => exact ⟨rfl, ds, rfl, HR.out⟩

set_option maxHeartbeats 4000000 in
set_option maxRecDepth 100000 in
theorem is_any (cs : List ByteArray) (n m : Int) (u : TypeId) (x : Value) (w : World) (hc : Chain w cs (some n) (.iface u x)) :
    Calls Tryd.prog 10 #[.iface u x, .iface 30 (.int .i64 m)] w fun e w' => e = .returned (.bool (n == m)) ∧ w = w' := by
  have HC := Lib.hid hc
  clear hc
  have x25 := @run_callFunc_extern Tryd.prog 29 _ ReflectliteType.typeOf Tryd.func29 (by kernel_rfl) (by kernel_rfl) (by kernel_rfl) (by kernel_rfl)
  have tOE := typeOfE
  have mC := methodComparable
  have cE := comparableE
  go_enter Tryd.func10, Tryd.ntmps10
  go_wp2_with (go_at_call 30; refine (is1_any cs n m u x _ HC.out).mono ?_; rintro e w' ⟨rfl, rfl⟩)
  go_ret
  exact ⟨rfl, rfl⟩
end Go.Proofs.YtfaieldafoeaiaaDoor

/-
  What the program's Map, Compose and Fold of layer 5 are held against; the numbers that folding tells.
-/
namespace Go.Proofs.YtfaieldafoeaiaaDoor
open Go.RowKit

theorem bnext {w a b : World} (h : Below w.heap.size w a) (k : Below a.heap.size a b) : Below w.heap.size w b := h.trans (k.mono h.size)
def Yes (w : World) (e : Ending) (w' : World) : Prop := e = .returned (.bool true) ∧ Below w.heap.size w w'
def MapOk (l : List Int) (w : World) (e : Ending) (w' : World) : Prop := ∃ A c, e = .returned (.tuple #[.slice A l.length c, .bool true]) ∧ Runes w' A l ∧ Below w.heap.size w w'
def RunesPost (l : List Int) (w : World) (e : Ending) (w' : World) : Prop := ∃ A c, e = .returned (.slice A l.length c) ∧ Runes w' A l ∧ l.length ≤ c ∧ Below w.heap.size w w'
def FoldPost (o : Option (List Int)) (w : World) (e : Ending) (w' : World) : Prop := match o with
  | none => ∃ cs u x, e = .returned (.tuple #[.slice none 0 0, .iface u x]) ∧ Chain w' cs (some 2) (.iface u x) ∧ Below w.heap.size w w'
  | some l => ∃ A c, e = .returned (.tuple #[.slice A l.length c, .nilIface]) ∧ Runes w' A l ∧ (l.length ≤ c ∧ (A = none → c = 0)) ∧ Below w.heap.size w w'
/-- The numbers of a rune. -/
def R32 (c : Int) : Prop := -2147483648 ≤ c ∧ c < 2147483648
theorem mapTo_rng {c : Int} (h : ¬ Barred c) : ∀ x ∈ mapTo c, R32 x := by
  have h0 : 0 ≤ c ∧ c ≤ 1114111 := by unfold Barred at h; omega
  intro x hx
  unfold mapTo down wide at hx
  repeat' split at hx
  all_goals simp only [List.mem_cons, or_false, List.not_mem_nil] at hx
  all_goals unfold R32; omega
theorem mapAll_rng {l m : List Int} (h : mapAll l = some m) : ∀ x ∈ m, R32 x := by
  induction l generalizing m with
  | nil => simp only [mapAll, Option.some.injEq] at h; subst h; simp
  | cons c l ih =>
    unfold mapAll at h
    split at h
    · cases h
    · rename_i hb
      obtain ⟨k, hk, rfl⟩ := Option.map_eq_some_iff.1 h
      intro x hx
      rcases List.mem_append.1 hx with hx | hx
      · exact mapTo_rng hb x hx
      · exact ih hk x hx
theorem pairs_rng : ∀ p ∈ pairs, -2147483648 ≤ p.2.2 ∧ p.2.2 < 2147483648 := by decide +kernel
theorem comp_rng : ∀ (n : Nat) (l : List Int), l.length ≤ n → (∀ x ∈ l, R32 x) → ∀ x ∈ comp l, R32 x := by
  intro n
  induction n with
  | zero => intro l h hl; rw [List.eq_nil_of_length_eq_zero (l := l) (by omega)]; simp [comp]
  | succ n ih =>
    intro l h hl
    match l, h, hl with
    | [], _, _ => simp [comp]
    | [a], _, hl => simpa [comp] using hl
    | a :: b :: t, h, hl =>
      simp only [List.length_cons] at h
      by_cases e : madeOf a b = 0
      · rw [comp_keep e]
        intro x hx
        rcases List.mem_cons.1 hx with rfl | hx
        · exact hl _ (List.mem_cons_self ..)
        · exact ih (b :: t) (by simp only [List.length_cons]; omega) (fun y hy => hl y (List.mem_cons_of_mem _ hy)) x hx
      · rw [comp_pair e]
        intro x hx
        rcases List.mem_cons.1 hx with rfl | hx
        · exact pairs_rng _ (madeIn_ne e)
        · exact ih t (by omega) (fun y hy => hl y (List.mem_cons_of_mem _ (List.mem_cons_of_mem _ hy))) x hx
theorem fold_rng {l a : List Int} (h : foldL l = some a) : ∀ x ∈ a, R32 x := by
  obtain ⟨m, hm, rfl⟩ := Option.map_eq_some_iff.1 h
  exact comp_rng m.length m (Nat.le_refl _) (mapAll_rng hm)
theorem rng_app {a b : List Int} (ha : ∀ x ∈ a, R32 x) (hb : ∀ x ∈ b, R32 x) : ∀ x ∈ a ++ b, R32 x := fun x hx => (List.mem_append.1 hx).elim (ha x) (hb x)
theorem fold_length {l a : List Int} (h : foldL l = some a) : a.length ≤ 2 * l.length := by
  obtain ⟨m, hm, rfl⟩ := Option.map_eq_some_iff.1 h
  have h1 := mapAll_length hm
  have h2 := comp_length m.length m (Nat.le_refl _)
  omega
theorem runes_new (w : World) (l : List Int) (t : TypeId) : Runes (w.alloc (.cells (l.map (Value.int .i32)).toArray t)) (some ⟨w.heap.size, 0, none⟩) l := by
  intro i c hc
  refine ⟨w.heap.size, 0, rfl, by simp, ?_⟩
  rw [World.cell?_alloc_at _ _ _ _ rfl, Nat.zero_add]
  simp [hc]
end Go.Proofs.YtfaieldafoeaiaaDoor

/-
  The program's Map, Compose and Fold do as the document says.
-/
namespace Go.Proofs.YtfaieldafoeaiaaDoor
open Go.RowKit

theorem boxI_new (w : World) (g : List Int → List Int) (hg : g [] = []) (hv : Vars w) : BoxI w w.heap.size g [] (w.alloc (.cells #[.slice none 0 0] 22)) := by
  have hb := (Below.refl w.heap.size w).alloc (Nat.le_refl _) (.cells #[.slice none 0 0] 22)
  refine ⟨hv.below hb, hb, Nat.le_refl _, by simp, fun _ => heap_alloc_new w _, .slice none 0 0, heap_alloc_new w _, ?_⟩
  rw [hg]
  exact World.ownsRow_nil _ _ _ _
theorem RowN.reads {B : Nat} {w : World} {v : Value} {l : List Int} (h : RowN B w v l) : ∃ A c, v = .slice A l.length c ∧ Runes w A l ∧ (l.length ≤ c ∧ (A = none → c = 0)) := by
  have h' : w.ownsRow B 21 1 v l.length (l.map (Value.int .i32)) := h
  rcases h.2 with ⟨rfl, h0⟩ | ⟨g, cap, cur, rfl, hh⟩
  · obtain rfl := List.eq_nil_of_length_eq_zero h0
    exact ⟨none, 0, rfl, fun i s hs => by simp at hs, Nat.le_refl _, fun _ => rfl⟩
  · refine ⟨_, _, rfl, fun i s hs => ?_, hh.2.2.1, fun e => by cases e⟩
    have hi : i < l.length := (List.getElem?_eq_some_iff.1 hs).1
    have hc := h'.cellAt (g := g) i (by simpa using hi)
    refine ⟨g, 0, rfl, (Array.getElem?_eq_some_iff.1 hh.2.1).1, ?_⟩
    rw [Nat.zero_add, hc, List.getElem?_map, hs]; rfl

end Go.Proofs.YtfaieldafoeaiaaDoor

/-
  The program's Fold does as the document says.
-/
namespace Go.Proofs.YtfaieldafoeaiaaDoor
open Go.RowKit

set_option maxHeartbeats 1000000 in
set_option maxRecDepth 100000 in
theorem fold_p (A : Option Addr) (l : List Int) (cap : Nat) (w : World) (hv : Vars w) (hrg : ∀ c ∈ l, R32 c) (hr : Runes w A l) (hl : l.length ≤ 1400) :
    Calls Tryd.prog 11 #[.slice A l.length cap] w (FoldPost (foldL l) w) := by
  have hmf : ∀ (fn : Fn) (first cap : Array Value) (w : World), (Instr.makeFunc fn first cap).run Tryd.prog w = .ok (.func fn first cap) w := fun _ _ _ _ => rfl
  have HN0 := Lib.hid (boxI_new w comp rfl hv)
  have HTk := Lib.hid (takes_fold w hv w.heap.size)
  have HR := Lib.hid hr
  have HG := Lib.hid hrg
  clear hv hr hrg
  go_enter Tryd.func11, Tryd.ntmps11
  go_wp2
  go_loopw [11] (fun i wr => ∃ (k : Nat) (m : List Int), k ≤ l.length ∧ i = .int .i64 k ∧ BoxI w w.heap.size comp m wr ∧ mapAll (l.take k) = some m) (fun i _ => l.length - (intOf i).toNat)
  case atStart => exact ⟨0, [], Nat.zero_le _, rfl, HN0.out, rfl⟩
  case round =>
    obtain ⟨k, m, hk, rfl, hi, hmm⟩ := hrel
    have hml : m.length ≤ 2800 := by
      have := mapAll_length hmm
      rw [List.length_take] at this
      omega
    by_cases hlt : k < l.length
    · obtain ⟨b, off, rfl, _, hc⟩ := (HR.out.below hi.old) k l[k] (List.getElem?_eq_getElem hlt)
      have hrg := HG.out l[k] (List.getElem_mem hlt)
      have HT := Lib.hid (tell_fold ⟨w.heap.size, 0, none⟩ (BoxI w w.heap.size comp) HTk.out l[k] m wr hi (by omega) hrg.1 hrg.2)
      by_cases hb : Barred l[k]
      · have HN : Hid (foldL l = none) := by
          show foldL l = none
          unfold foldL
          rw [mapAll_bad hlt hb]; rfl
        obtain ⟨x, hx⟩ : ∃ x, l[k] = x := ⟨_, rfl⟩
        rw [hx] at hc hb HT
        have HBd := Lib.hid hb
        clear hx hb hrg hi hmm
        go_wp2_with (first
          | (go_at_call 33; (with_reducible refine HT.out.mono ?_)
             rintro e w1 (⟨_, rfl, hi⟩ | ⟨hn, _⟩)
             rotate_left
             · exact absurd HBd.out hn
             have HI := Lib.hid hi
             clear hi)
          | (go_at_call 34; refine (wrap_held _ _ _ _).mono ?_; rintro e w' ⟨rfl, rfl⟩))
        go_ret2
        rw [HN.out]
        refine ⟨[⟨#[102, 111, 108, 100]⟩], _, _, rfl, Chain.lay (w := w1) (cs := []) (o := some 2) ⟨#[102, 111, 108, 100]⟩ rfl, ?_⟩
        exact HI.out.old.alloc HI.out.old.size _
      · have HSt := Lib.hid (mapAll_step hlt hb hmm)
        obtain ⟨x, hx⟩ : ∃ x, l[k] = x := ⟨_, rfl⟩
        rw [hx] at hc hb HT HSt
        have HBd := Lib.hid hb
        clear hx hb hrg hi hmm
        go_wp2_with (go_at_call 33; (with_reducible refine HT.out.mono ?_)
                     rintro e w1 (⟨hn, _⟩ | ⟨_, rfl, hi⟩)
                     · exact absurd hn HBd.out
                     have HI := Lib.hid hi
                     clear hi)
        go_roundw
        case rel => exact ⟨k + 1, m ++ mapTo x, hlt, by go_num, HI.out, HSt.out⟩
        case measure => simp [intOf]; omega
    · have HS : Hid (foldL l = some (comp m)) := by
        show foldL l = some (comp m)
        rw [List.take_of_length_le (by omega)] at hmm
        unfold foldL
        rw [hmm]; rfl
      obtain ⟨v, hc, _, hrow⟩ := hi.cell
      obtain ⟨A1, c1, hvv, hru, hcc⟩ := hrow.reads
      subst hvv
      have HP := Lib.hid (And.intro hru (And.intro hcc hi.old))
      clear hru hcc hrow hi hmm
      go_wp2
      go_ret2
      rw [HS.out]
      exact ⟨_, _, rfl, HP.out.1, HP.out.2.1, HP.out.2.2⟩

end Go.Proofs.YtfaieldafoeaiaaDoor

/-
  What the program's Encode and Decode of layer 4 are held against: their contracts, as hypotheses; and bounds on lengths.
-/
namespace Go.Proofs.YtfaieldafoeaiaaDoor
open Go.RowKit

theorem tellK_log (bias : Nat) : ∀ (n q k : Nat), q < 10 ^ n → (tellK q bias k).length ≤ n + 1 := by
  intro n
  induction n with
  | zero =>
    intro q k h
    have ht := thr_pos k bias
    rw [tellK_small (by omega)]; simp
  | succ n ih =>
    intro q k h
    have ht := thr_pos k bias
    by_cases hq : q < thr k bias
    · rw [tellK_small hq]; simp
    · rw [tellK_more hq, List.length_cons]
      have h1 : (q - thr k bias) / (36 - thr k bias) ≤ (q - thr k bias) / 10 := Nat.div_le_div_left (by omega) (by omega)
      have h2 : (q - thr k bias) / 10 < 10 ^ n := by
        rw [Nat.pow_succ] at h
        omega
      have := ih ((q - thr k bias) / (36 - thr k bias)) (k + 36) (Nat.lt_of_le_of_lt h1 h2)
      omega
theorem tells_len (basic : Nat) (ds : List Nat) : ∀ (bias h : Nat), (∀ d ∈ ds, d < 1000000000) → (tells basic ds bias h).length ≤ 10 * ds.length := by
  induction ds with
  | nil => intro bias h _; simp [tells]
  | cons d ds ih =>
    intro bias h hd
    have h1 := ih (adapt d (h + 1) (h == basic)) (h + 1) (fun x hx => hd x (List.mem_cons_of_mem _ hx))
    have h2 := tellK_log bias 9 d 36 (by have := hd d (List.mem_cons_self ..); simpa using this)
    show (tellK d bias 36 ++ _).length ≤ _
    rw [List.length_append, List.length_cons]
    omega
theorem deltas_small (ds : List Nat) : ∀ (cur : List Nat) (n i : Nat), (∀ x ∈ (runD ds cur n i).1, sc x = true) → (runD ds cur n i).1.length ≤ 250 → ∀ d ∈ ds, d < 1000000000 := by
  induction ds with
  | nil => intro cur n i _ _ d hd; cases hd
  | cons d ds ih =>
    intro cur n i hs hl x hx
    have hlen : cur.length + (d :: ds).length ≤ 250 := by rw [← runD_length (d :: ds) cur n i]; exact hl
    rw [List.length_cons] at hlen
    rcases List.mem_cons.1 hx with rfl | hx
    · have hin : n + (i + x) / (cur.length + 1) ∈ (runD (x :: ds) cur n i).1 := runD_mem ds _ _ _ _ (mem_ins.2 (.inl rfl))
      have hsc := hs _ hin
      have hle : (i + x) / (cur.length + 1) ≤ 1114111 := by
        have := sc_lt hsc
        exact Nat.le_trans (Nat.le_add_left _ _) (Nat.le_of_lt_succ this)
      have hb1 : i + x < 1114112 * (cur.length + 1) := (Nat.div_lt_iff_lt_mul (by omega)).1 (by omega)
      have hb : i + x < 1114112 * 251 := Nat.lt_of_lt_of_le hb1 (Nat.mul_le_mul_left _ (by omega))
      omega
    · exact ih _ _ _ hs hl x hx
theorem penc_len {l : List Nat} (hs : ∀ x ∈ l, sc x = true) (hl : l.length ≤ 250) : (penc l).length ≤ 11 * l.length + 1 := by
  have hr := run_deltas hs
  have h1 := deltas_small (deltas l l.length 128 0 (basicOf l).length) (basicOf l) 128 0 (by rw [hr]; exact hs) (by rw [hr]; exact hl)
  have h2 := tells_len (basicOf l).length (deltas l l.length 128 0 (basicOf l).length) 72 (basicOf l).length h1
  have h3 := runD_length (deltas l l.length 128 0 (basicOf l).length) (basicOf l) 128 0
  rw [hr] at h3
  have h4 : (basicOf l).length ≤ l.length := List.length_filter_le _ _
  unfold penc
  rw [List.length_append, List.length_append, List.length_map]
  split <;> simp only [List.length_nil, List.length_cons] <;> omega
theorem pdec_length {s : List UInt8} {l : List Nat} (h : pdec s = some l) : l.length ≤ s.length := by
  have main : ∀ (f : Nat) (t : List UInt8) (cur : List Nat), (∀ x ∈ cur, x < 128) → decT f t cur 128 0 72 = some l → l.length ≤ cur.length + t.length := by
    intro f t cur hcur hd
    obtain ⟨ds, h1, h2, _⟩ := tells_decT cur.length f t cur 128 0 72 l hd (.inl ⟨rfl, rfl⟩) (fun x hx => sc_small (hcur x hx))
    have h3 := dtells_length cur.length ds 72 cur.length
    rw [← h1, List.length_map] at h3
    rw [← h2, runD_length]
    omega
  unfold pdec at h
  split at h
  · cases h
  · rename_i hany
    have hsm : ∀ b ∈ s, b.toNat < 128 := by
      intro b hb
      have := List.any_eq_false.1 (Bool.eq_false_iff.2 hany) b hb
      simp at this; omega
    split at h
    · have := main _ _ _ (fun x hx => by
        obtain ⟨y, hy, rfl⟩ := List.mem_map.1 hx
        exact hsm y (List.mem_of_mem_take hy)) h
      simp only [List.length_map, List.length_take, List.length_drop] at this
      omega
    · have := main _ _ _ (fun x hx => by cases hx) h
      simpa using this

/-- A list of numbers is scalars, as numbers; or not. -/
theorem ints_of {l : List Int} (h : ∀ c ∈ l, scal c = true) : l = ints (l.map Int.toNat) ∧ ∀ x ∈ l.map Int.toNat, sc x = true := by
  have hp : ∀ c ∈ l, ((c.toNat : Nat) : Int) = c := fun c hc => by have := (scal_iff c).1 (h c hc); omega
  refine ⟨?_, fun x hx => ?_⟩
  · unfold ints
    rw [List.map_map]
    exact ((List.map_congr_left (g := id) fun c hc => hp c hc).trans (List.map_id _)).symm
  · obtain ⟨c, hc, rfl⟩ := List.mem_map.1 hx
    rw [← sc_scal', hp c hc]
    exact h c hc

def EncOk (ln : List Nat) (w : World) (e : Ending) (w' : World) : Prop := e = .returned (.tuple #[.string ⟨(penc ln).toArray⟩, .nilIface]) ∧ Below w.heap.size w w'
def EncBad (w : World) (e : Ending) (w' : World) : Prop := ∃ cs u x, e = .returned (.tuple #[.string ⟨#[]⟩, .iface u x]) ∧ Chain w' cs (some 2) (.iface u x) ∧ Below w.heap.size w w'
def DecPostN (o : Option (List Nat)) (w : World) (e : Ending) (w' : World) : Prop := match o with
  | none => ∃ cs u x, e = .returned (.tuple #[.slice none 0 0, .iface u x]) ∧ Chain w' cs (some 2) (.iface u x) ∧ Below w.heap.size w w'
  | some l => ∃ A c, e = .returned (.tuple #[.slice A l.length c, .nilIface]) ∧ Runes w' A (ints l) ∧ l.length ≤ c ∧ Below w.heap.size w w'
/-- The program's Encode and Decode do as the document says. -/
structure PunyC : Prop where
  encOk : ∀ (A : Option Addr) (ln : List Nat) (cap : Nat) (w : World), Runes w A (ints ln) → (∀ c ∈ ln, sc c = true) → ln.length ≤ 250 → ln.length ≤ cap →
    Calls Tryd.prog 28 #[.slice A ln.length cap] w (EncOk ln w)
  encBad : ∀ (A : Option Addr) (l : List Int) (cap : Nat) (w : World), Runes w A l → (∀ c ∈ l, -2147483648 ≤ c ∧ c < 2147483648) → (¬ ∀ c ∈ l, scal c = true) → l.length ≤ 250 → l.length ≤ cap →
    Calls Tryd.prog 28 #[.slice A l.length cap] w (EncBad w)
  dec : ∀ (s : ByteArray) (w : World), s.size ≤ 3000 → Calls Tryd.prog 45 #[.string s] w (DecPostN (pdec s.data.toList) w)
end Go.Proofs.YtfaieldafoeaiaaDoor

/-
  The document's All of layer 6, by its contract.
-/
namespace Go.Proofs.YtfaieldafoeaiaaDoor
open Go.RowKit

theorem made_cap {w w' : World} {v : Value} {l : List Int} {A : Option Addr} {c : Nat} (h : Made w w' v l) (hv : v = .slice A l.length c) : (A = none ∧ l.length = 0 ∧ c = 0) ∨ (∃ g, A = some ⟨g, 0, none⟩) ∧ l.length ≤ c ∧ c ≤ 9223372036854775807 := by
  rcases h.1.2 with ⟨e, h0⟩ | ⟨g, cap, cur, e, _, _, h1, h2, _⟩
  · rw [hv] at e
    simp only [Value.slice.injEq] at e
    exact .inl ⟨e.1, e.2.1, e.2.2⟩
  · rw [hv] at e
    simp only [Value.slice.injEq] at e
    unfold maxLen at h2
    exact .inr ⟨⟨g, e.1⟩, by omega, by omega⟩
theorem lone_len {l : List Int} {x : List UInt8} (h : lone l = some x) (hl : l.length ≤ 250) : x.length ≤ 16 * (l.length + 1) := by
  by_cases hs : ∀ c ∈ l, scal c = true
  · have he := enc_length l
    by_cases hx : l.take 4 = xnI
    · rw [lone_xn hs hx] at h
      split at h
      · cases h; omega
      · cases h
    · cases hp : plainL l with
      | true => rw [lone_plain hs hx hp] at h; cases h; omega
      | false =>
        cases hm : markL l with
        | true => rw [lone_mark hs hx hp hm] at h; cases h
        | false =>
          rw [lone_puny hs hx hp hm] at h
          cases h
          have hsc6 : ∀ n ∈ l.map Int.toNat, sc n = true := fun n hn => by
            obtain ⟨c, hc, rfl⟩ := List.mem_map.1 hn
            have hcs := (scal_iff c).1 (hs c hc)
            rw [← sc_scal', show ((c.toNat : Nat) : Int) = c by omega]
            exact hs c hc
          have := penc_len6 hsc6 (by rw [List.length_map]; exact hl)
          rw [List.length_map] at this
          rw [List.length_append]
          simp [xnB]
          omega
  · rw [lone_bad hs] at h; cases h
theorem parts_cur {cur : List Int} (h : (46 : Int) ∉ cur) (r : List Int) : partsOf (cur ++ 46 :: r) = cur :: partsOf r := by rw [partsOf_append, partsOf_none h]; rfl
theorem mapOne_snoc {qs : List (List Int)} {xs : List (List UInt8)} {p : List Int} {x : List UInt8} (h : mapOne qs = some xs) (hx : lone p = some x) : mapOne (qs ++ [p]) = some (xs ++ [x]) := by
  rw [mapOne_append, h]
  simp only [mapOne, hx]
theorem mapOne_stop {qs : List (List Int)} {p : List Int} (r : List (List Int)) (hx : lone p = none) : mapOne (qs ++ p :: r) = none := by
  rw [mapOne_append]
  have : mapOne (p :: r) = none := by simp only [mapOne, hx]
  rw [this]
  cases mapOne qs <;> rfl
theorem joinB_snoc (xs : List (List UInt8)) (x : List UInt8) (h : xs ≠ []) : joinB (xs ++ [x]) = joinB xs ++ 46 :: x := by rw [joinB_append h (by simp)]; rfl

/-- Where the loop stands: parts that are told, and the part that is at hand. -/
structure AllAt (f : List Int) (from_ i : Nat) (bs : ByteArray) (qs : List (List Int)) (xs : List (List UInt8)) : Prop where
  told : mapOne qs = some xs
  out : bs.data.toList = joinB xs
  first : from_ = 0 ↔ xs = []
  le : from_ ≤ i
  len : bs.size ≤ 20 * from_
  rest : (i ≤ f.length ∧ partsOf f = qs ++ partsOf (f.drop from_) ∧ (46 : Int) ∉ (f.drop from_).take (i - from_)) ∨ (i = f.length + 1 ∧ from_ = f.length + 1 ∧ partsOf f = qs)
theorem AllAt.start (f : List Int) : AllAt f 0 0 ⟨#[]⟩ [] [] := ⟨rfl, rfl, by simp, Nat.le_refl _, Nat.le_refl 0, .inl ⟨Nat.zero_le _, rfl, by simp⟩⟩
theorem part_here {f : List Int} {from_ i : Nat} (hi : from_ ≤ i) (hlt : i < f.length) : (f.drop from_).take (i + 1 - from_) = (f.drop from_).take (i - from_) ++ [f[i]] := by
  rw [show i + 1 - from_ = i - from_ + 1 by omega, List.take_succ_eq_append_getElem (by rw [List.length_drop]; omega), List.getElem_drop]
  congr 2
  congr 1
  omega
theorem AllAt.step {f : List Int} {from_ i : Nat} {bs : ByteArray} {qs : List (List Int)} {xs : List (List UInt8)} (h : AllAt f from_ i bs qs xs) (hlt : i < f.length) (hc : f[i] ≠ 46) : AllAt f from_ (i + 1) bs qs xs := by
  refine ⟨h.told, h.out, h.first, by have := h.le; omega, h.len, ?_⟩
  rcases h.rest with ⟨h1, h2, h3⟩ | ⟨h1, _⟩
  · refine .inl ⟨by omega, h2, ?_⟩
    rw [part_here h.le hlt, List.mem_append, not_or]
    exact ⟨h3, by simpa using Ne.symm hc⟩
  · omega
/-- The part at hand is the next one. -/
theorem AllAt.next {f : List Int} {from_ i : Nat} {bs : ByteArray} {qs : List (List Int)} {xs : List (List UInt8)} (h : AllAt f from_ i bs qs xs) (hle : i ≤ f.length) (hc : i = f.length ∨ ∃ hlt : i < f.length, f[i] = 46) :
    ∃ r, partsOf f = qs ++ (f.drop from_).take (i - from_) :: r ∧ (i < f.length → r = partsOf (f.drop (i + 1))) ∧ (i = f.length → r = []) := by
  have hli := h.le
  rcases h.rest with ⟨h1, h2, h3⟩ | ⟨h1, _⟩
  · rcases hc with e | ⟨hlt, e⟩
    · refine ⟨[], ?_, fun h' => by omega, fun _ => rfl⟩
      have : (f.drop from_).take (i - from_) = f.drop from_ := List.take_of_length_le (by rw [List.length_drop]; omega)
      rw [this] at h3 ⊢
      rw [h2, partsOf_none h3]
    · refine ⟨partsOf (f.drop (i + 1)), ?_, fun _ => rfl, fun h' => by omega⟩
      have hsp : f.drop from_ = (f.drop from_).take (i - from_) ++ 46 :: f.drop (i + 1) := by
        conv => lhs; rw [← List.take_append_drop (i - from_) (f.drop from_)]
        rw [List.drop_drop, show from_ + (i - from_) = i by omega, List.drop_eq_getElem_cons hlt, e]
      rw [h2]
      conv => lhs; rw [hsp]
      rw [parts_cur h3]
  · omega
theorem AllAt.told_ {f : List Int} {from_ i : Nat} {bs b2 : ByteArray} {qs : List (List Int)} {xs : List (List UInt8)} {x : List UInt8} (h : AllAt f from_ i bs qs xs) (hle : i ≤ f.length) (hc : i = f.length ∨ ∃ hlt : i < f.length, f[i] = 46) (hx : lone ((f.drop from_).take (i - from_)) = some x) (hl : f.length ≤ 220)
    (hb : b2.data.toList = if from_ = 0 then bs.data.toList ++ x else bs.data.toList ++ 46 :: x) : AllAt f (i + 1) (i + 1) b2 (qs ++ [(f.drop from_).take (i - from_)]) (xs ++ [x]) := by
  have hli := h.le
  obtain ⟨r, hr, hr1, hr2⟩ := h.next hle hc
  have hlen := lone_len hx (by rw [List.length_take, List.length_drop]; omega)
  rw [List.length_take, List.length_drop] at hlen
  have hbs : bs.size = bs.data.toList.length := by simp
  have hb2 : b2.size = b2.data.toList.length := by simp
  have hl0 := h.len
  refine ⟨mapOne_snoc h.told hx, ?_, by simp, Nat.le_refl _, ?_, ?_⟩
  · rw [hb]
    by_cases e : from_ = 0
    · rw [if_pos e, h.out, (h.first.1 e)]; rfl
    · rw [if_neg e, h.out, joinB_snoc _ _ (fun e2 => e (h.first.2 e2))]
  · rw [hb2, hb]
    split
    · rw [List.length_append, ← hbs]; omega
    · rw [List.length_append, List.length_cons, ← hbs]; omega
  · by_cases e : i < f.length
    · refine .inl ⟨by omega, ?_, by simp⟩
      rw [hr, hr1 e, List.append_assoc]; rfl
    · refine .inr ⟨by omega, by omega, ?_⟩
      rw [hr, hr2 (by omega)]
theorem AllAt.stop {f : List Int} {from_ i : Nat} {bs : ByteArray} {qs : List (List Int)} {xs : List (List UInt8)} (h : AllAt f from_ i bs qs xs) (hle : i ≤ f.length) (hc : i = f.length ∨ ∃ hlt : i < f.length, f[i] = 46) (hx : lone ((f.drop from_).take (i - from_)) = none) : mapOne (partsOf f) = none := by
  obtain ⟨r, hr, _⟩ := h.next hle hc
  rw [hr, mapOne_stop _ hx]

def NamePost (r : Nat × List UInt8) (w : World) (e : Ending) (w' : World) : Prop := e = .returned (.tuple #[.string ⟨r.2.toArray⟩, .int .i64 r.1]) ∧ Below w.heap.size w w'

end Go.Proofs.YtfaieldafoeaiaaDoor

/-
  What the program's One and All of layer 6 are held against: their contracts, as hypotheses; the example.
-/
namespace Go.Proofs.YtfaieldafoeaiaaDoor
open Go.RowKit

/-- A text and no error; or an empty text and an error of this number. -/
def TextPost (n : Nat) (s : List UInt8) (w : World) (e : Ending) (w' : World) : Prop := match n with
  | 0 => e = .returned (.tuple #[.string ⟨s.toArray⟩, .nilIface]) ∧ Below w.heap.size w w'
  | n + 1 => ∃ cs u x, e = .returned (.tuple #[.string ⟨#[]⟩, .iface u x]) ∧ Chain w' cs (some ((n + 1 : Nat) : Int)) (.iface u x) ∧ Below w.heap.size w w'
def oneNo (o : Option (List UInt8)) : Nat := match o with
  | none => 2
  | some _ => 0
/-- The program's One and All do as the document says, in every world behind w0 (which holds the package's variables). -/
structure LabelC (w0 : World) : Prop where
  one : ∀ (A : Option Addr) (l : List Int) (cap : Nat) (w : World), Below w0.heap.size w0 w → (∀ c ∈ l, R32 c) → Runes w A l → l.length ≤ 60 → l.length ≤ cap ∧ (A = none → cap = 0) → Calls Tryd.prog 9 #[.slice A l.length cap] w (TextPost (oneNo (lone l)) ((lone l).getD []) w)
  all : ∀ (A : Option Addr) (l : List Int) (cap : Nat) (w : World), Below w0.heap.size w0 w → (∀ c ∈ l, R32 c) → Runes w A l → l.length ≤ 121 → l.length ≤ cap ∧ (A = none → cap = 0) → Calls Tryd.prog 6 #[.slice A l.length cap] w (TextPost (lall l).1 (lall l).2 w)
  low : ∀ (A : Option Addr) (l : List Int) (cap : Nat) (w : World), Below w0.heap.size w0 w → Runes w A l → (∀ c ∈ l, 0 ≤ c ∧ c < 128) → l.length ≤ 1400 → l.length ≤ cap ∧ (A = none → cap = 0) → Calls Tryd.prog 6 #[.slice A l.length cap] w (TextPost (lall l).1 (lall l).2 w)

theorem lone_len2 {l : List Int} {x : List UInt8} (h : lone l = some x) (hl : l.length ≤ 250) : x.length ≤ 11 * l.length + 5 := by
  by_cases hs : ∀ c ∈ l, scal c = true
  · have he := enc_length l
    by_cases hx : l.take 4 = xnI
    · rw [lone_xn hs hx] at h
      split at h
      · cases h; omega
      · cases h
    · cases hp : plainL l with
      | true => rw [lone_plain hs hx hp] at h; cases h; omega
      | false =>
        cases hm : markL l with
        | true => rw [lone_mark hs hx hp hm] at h; cases h
        | false =>
          rw [lone_puny hs hx hp hm] at h
          cases h
          have hsc6 : ∀ n ∈ l.map Int.toNat, sc n = true := fun n hn => by
            obtain ⟨c, hc, rfl⟩ := List.mem_map.1 hn
            have hcs := (scal_iff c).1 (hs c hc)
            rw [← sc_scal', show ((c.toNat : Nat) : Int) = c by omega]
            exact hs c hc
          have := penc_len6 hsc6 (by rw [List.length_map]; exact hl)
          rw [List.length_map] at this
          rw [List.length_append]
          simp [xnB]
          omega
  · rw [lone_bad hs] at h; cases h
def wid6 : List (List Int) → Nat
  | [] => 0
  | q :: qs => q.length + 1 + wid6 qs
theorem wid6_parts (l : List Int) : wid6 (partsOf l) = l.length + 1 := by
  induction l with
  | nil => rfl
  | cons c l ih =>
    unfold partsOf
    split
    · simp [wid6, ih]; omega
    · have hn := partsOf_ne l
      cases hp : partsOf l with
      | nil => exact absurd hp hn
      | cons p ps =>
        rw [hp] at ih
        simp only [wid6, List.length_cons] at ih ⊢
        omega
theorem join_len : ∀ (qs : List (List Int)) (xs : List (List UInt8)), mapOne qs = some xs → wid6 qs ≤ 250 → (joinB xs).length ≤ 11 * wid6 qs := by
  intro qs
  induction qs with
  | nil => intro xs h _; cases h; exact Nat.zero_le _
  | cons q qs ih =>
    intro xs h hw
    simp only [wid6] at hw ⊢
    unfold mapOne at h
    cases hq : lone q with
    | none => rw [hq] at h; cases h
    | some x =>
      have h1 := lone_len2 hq (by omega)
      cases hqs : mapOne qs with
      | none => rw [hq, hqs] at h; cases h
      | some ys =>
        rw [hq, hqs] at h
        cases h
        have h2 := ih ys hqs (by omega)
        cases ys with
        | nil => simp only [joinB]; omega
        | cons y ys =>
          simp only [joinB, List.length_append, List.length_cons] at h2 ⊢
          omega
theorem lall_len6 {l : List Int} {s : List UInt8} (h : lall l = (0, s)) (hl : l.length ≤ 60) : s.length ≤ 1400 := by
  unfold lall at h
  cases hf : foldL l with
  | none => rw [hf] at h; cases h
  | some f =>
    have hfl := fold_length hf
    rw [hf] at h
    cases hm : mapOne (partsOf f) with
    | none => simp only [hm] at h; cases h
    | some xs =>
      simp only [hm] at h
      have h1 := join_len _ xs hm (by rw [wid6_parts]; omega)
      rw [wid6_parts] at h1
      split at h
      · cases h
      · cases h; omega
theorem lall_a : lall [66, 220, 67, 104, 101, 114, 12290, 120] = (0, [120, 110, 45, 45, 98, 99, 104, 101, 114, 45, 107, 118, 97, 46, 120]) := by decide +kernel
theorem lall_b : lall [] = (3, []) := by decide +kernel
theorem lone_c : lone [769] = none := by decide +kernel
theorem lab_a {w0 : World} (C : LabelC w0) (w : World) (hw : Below w0.heap.size w0 w) : Calls Tryd.prog 6 #[.slice (some ⟨w.heap.size, 0, none⟩) 8 8] (w.alloc (.cells #[.int .i32 66, .int .i32 220, .int .i32 67, .int .i32 104, .int .i32 101, .int .i32 114, .int .i32 12290, .int .i32 120] 21)) fun e w' =>
    e = .returned (.tuple #[.string ⟨#[120, 110, 45, 45, 98, 99, 104, 101, 114, 45, 107, 118, 97, 46, 120]⟩, .nilIface]) ∧ Below w.heap.size w w' := by
  refine (C.all (some ⟨w.heap.size, 0, none⟩) [66, 220, 67, 104, 101, 114, 12290, 120] 8 _ (hw.alloc hw.size _) (by intro c hc; simp at hc; unfold R32; omega) (runes_new w [66, 220, 67, 104, 101, 114, 12290, 120] 21) (by decide) ⟨by decide, fun e => by cases e⟩).mono ?_
  intro e w' h
  rw [lall_a] at h
  obtain ⟨rfl, hb⟩ := h
  exact ⟨rfl, bnext ((Below.refl _ _).alloc (Nat.le_refl _) _) hb⟩
theorem lab_b {w0 : World} (C : LabelC w0) (w : World) (hw : Below w0.heap.size w0 w) : Calls Tryd.prog 6 #[.slice none 0 0] w fun e w' =>
    ∃ cs u x, e = .returned (.tuple #[.string ⟨#[]⟩, .iface u x]) ∧ Chain w' cs (some 3) (.iface u x) ∧ Below w.heap.size w w' := by
  have := C.all none [] 0 w hw (by simp) Runes.nil_ (by decide) ⟨by decide, fun _ => rfl⟩
  rw [lall_b] at this
  exact this
theorem lab_c {w0 : World} (C : LabelC w0) (w : World) (hw : Below w0.heap.size w0 w) : Calls Tryd.prog 9 #[.slice (some ⟨w.heap.size, 0, none⟩) 1 1] (w.alloc (.cells #[.int .i32 769] 21)) fun e w' =>
    ∃ cs u x, e = .returned (.tuple #[.string ⟨#[]⟩, .iface u x]) ∧ Chain w' cs (some 2) (.iface u x) ∧ Below w.heap.size w w' := by
  refine (C.one (some ⟨w.heap.size, 0, none⟩) [769] 1 _ (hw.alloc hw.size _) (by intro c hc; simp at hc; unfold R32; omega) (runes_new w [769] 21) (by decide) ⟨by decide, fun e => by cases e⟩).mono ?_
  intro e w' h
  rw [lone_c] at h
  obtain ⟨cs, u, x, rfl, hc, hb⟩ := h
  exact ⟨cs, u, x, rfl, hc, bnext ((Below.refl _ _).alloc (Nat.le_refl _) _) hb⟩

set_option maxHeartbeats 1000000 in
set_option maxRecDepth 100000 in
theorem awake6 {w : World} (C : LabelC w) : Calls Tryd.prog 5 #[] w (Yes w) := by
  have HC := Lib.hid C
  clear C
  go_enter Tryd.func5, Tryd.ntmps5
  go_wp2_with (first
    | (go_at_call 6; (with_reducible refine (lab_a HC.out _ (Below.refl _ _)).mono ?_); rintro e w1 ⟨rfl, hb⟩; have HB := Lib.hid hb; clear hb)
    | (go_at_call 6; (with_reducible refine (lab_b HC.out _ HB.out).mono ?_); rintro e w2 ⟨cs2, u2, x2, rfl, hch, hb⟩; have HC2 := Lib.hid hch; have HB := Lib.hid (bnext HB.out hb); clear hb hch)
    | (go_at_call 9; (with_reducible refine (lab_c HC.out _ HB.out).mono ?_); rintro e w3 ⟨cs3, u3, x3, rfl, hch, hb⟩; have HC3 := Lib.hid hch; have HC2 := Lib.hid (HC2.out.below hb); have HB := Lib.hid (bnext HB.out hb); clear hb hch)
    | (go_at_call 10; (with_reducible refine (is_any _ 3 3 u2 x2 _ HC2.out).mono ?_); rintro e w' ⟨rfl, rfl⟩)
    | (go_at_call 10; (with_reducible refine (is_any _ 2 2 u3 x3 _ HC3.out).mono ?_); rintro e w' ⟨rfl, rfl⟩))
  go_ret
  exact ⟨rfl, HB.out⟩
end Go.Proofs.YtfaieldafoeaiaaDoor

/-
  check of package label: the error of Punycode that stands for no part.
-/
namespace Go.Proofs.YtfaieldafoeaiaaDoor
open Go.RowKit

/-- No error; or an error of number 2. -/
def CheckPost (ok : Bool) (w : World) (e : Ending) (w' : World) : Prop := match ok with
  | true => e = .returned .nilIface ∧ Below w.heap.size w w'
  | false => ∃ cs u x, e = .returned (.iface u x) ∧ Chain w' cs (some 2) (.iface u x) ∧ Below w.heap.size w w'

theorem zs_R32 {l : List Nat} (h : ∀ n ∈ l, sc n = true) : ∀ c ∈ ints l, R32 c := by
  intro c hc
  obtain ⟨n, hn, rfl⟩ := List.mem_map.1 hc
  have := sc_lt (h n hn)
  unfold R32
  omega
theorem okDec_no {s : List UInt8} (h : pdec s = none) : okDec s = false := by unfold okDec; rw [h]
theorem okDec_some {s : List UInt8} {l : List Nat} (h : pdec s = some l) : okDec s = (!(plainL (ints l)) && !(markL (ints l)) && decide (foldL (ints l) = some (ints l))) := by unfold okDec; rw [h]; rfl

set_option maxHeartbeats 2000000 in
set_option maxRecDepth 100000 in
theorem check_any (PC : PunyC) (s : ByteArray) (w : World) (hv : Vars w) (hs : s.size ≤ 1400) :
    Calls Tryd.prog 27 #[.string s] w (CheckPost (okDec s.data.toList) w) := by
  have HV := Lib.hid hv
  have HDc := Lib.hid (PC.dec s w (by omega))
  clear hv PC
  cases hp : pdec s.data.toList with
  | none =>
    rw [okDec_no hp]
    rw [hp] at HDc
    clear hp
    go_enter Tryd.func27, Tryd.ntmps27
    go_wp2_with (first
      | (go_at_call 45; refine HDc.out.mono ?_; rintro e w1 ⟨cs, u, x, rfl, hch, hb⟩; have HCh := Lib.hid hch; have HB := Lib.hid hb; clear hch hb)
      | (go_at_call 12; refine (wrap6_any cs 2 u x _ HCh.out).mono ?_; rintro e w2 ⟨cs2, u2, x2, rfl, hch, hb⟩; have HCh2 := Lib.hid hch; have HB2 := Lib.hid hb; clear hch hb))
    go_ret
    exact ⟨cs2, u2, x2, rfl, HCh2.out, bnext HB.out HB2.out⟩
  | some l =>
    rw [okDec_some hp]
    rw [hp] at HDc
    have hll := pdec_length hp
    have hln : (ints l).length ≤ 1400 := by
      rw [ints_length]
      simp at hll
      omega
    have HSc := Lib.hid (zs_R32 (penc_pdec hp).2)
    have HIL := Lib.hid (ints_length l)
    clear hp hll
    obtain ⟨L, hL⟩ : ∃ L, ints l = L := ⟨_, rfl⟩
    have HLL := Lib.hid (show l.length = L.length by rw [← hL, ints_length])
    have HDc2 : Hid (Calls Tryd.prog 45 #[.string s] w fun e w' => ∃ A c, e = .returned (.tuple #[.slice A L.length c, .nilIface]) ∧ Runes w' A L ∧ Below w.heap.size w w') := by
      refine HDc.out.mono ?_
      rintro e w' ⟨A, c, rfl, hr, _, hb⟩
      exact ⟨A, c, by rw [HLL.out], by rw [← hL]; exact hr, hb⟩
    rw [hL] at hln HSc ⊢
    clear hL HDc HIL HLL
    have hln2 : L.length ≤ 100000 := by omega
    cases hf : foldL L with
    | none =>
      have HOk : Hid ((!(plainL L) && !(markL L) && decide (none = some L)) = false) := by
        show _ = false
        simp
      rw [HOk.out]
      have HFo : Hid (∀ A c w1, Below w.heap.size w w1 → Runes w1 A L → Calls Tryd.prog 11 #[.slice A L.length c] w1 (FoldPost none w1)) := by
        intro A c w1 hb h1
        have := fold_p A L c w1 (HV.out.below hb) HSc.out h1 hln
        rwa [hf] at this
      clear hf
      go_enter Tryd.func27, Tryd.ntmps27
      go_wp2_with (first
        | (go_at_call 45; refine HDc2.out.mono ?_; rintro e w1 ⟨A, c, rfl, hr, hb⟩; have HR := Lib.hid hr; have HB := Lib.hid hb; clear hr hb)
        | (go_at_call 11; refine (HFo.out A c _ HB.out HR.out).mono ?_; rintro e w2 ⟨cs, u, x, rfl, _, hb⟩; have HB := Lib.hid (bnext HB.out hb); clear hb)
        | (go_at_call 12; refine (wrap6_any [] 2 _ _ _ rfl).mono ?_; rintro e w2 ⟨cs2, u2, x2, rfl, hch, hb⟩; have HCh2 := Lib.hid hch; have HB2 := Lib.hid hb; clear hch hb))
      go_ret
      exact ⟨cs2, u2, x2, rfl, HCh2.out, bnext HB.out HB2.out⟩
    | some f =>
      have hfl := fold_length hf
      have HFo : Hid (∀ A c w1, Below w.heap.size w w1 → Runes w1 A L → Calls Tryd.prog 11 #[.slice A L.length c] w1 (FoldPost (some f) w1)) := by
        intro A c w1 hb h1
        have := fold_p A L c w1 (HV.out.below hb) HSc.out h1 hln
        rwa [hf] at this
      clear hf
      have HEq : Hid (decide (some f = some L) = same f L) := by
        show decide (some f = some L) = same f L
        unfold same
        simp
      rw [HEq.out]
      cases hpl : plainL L with
      | true =>
        have HPl := Lib.hid hpl
        clear hpl
        go_enter Tryd.func27, Tryd.ntmps27
        go_wp2_with (first
          | (go_at_call 45; refine HDc2.out.mono ?_; rintro e w1 ⟨A, c, rfl, hr, hb⟩; have HR := Lib.hid hr; have HB := Lib.hid hb; clear hr hb)
          | (go_at_call 11; refine (HFo.out A c _ HB.out HR.out).mono ?_; rintro e w2 ⟨A2, c2, rfl, hr, _, hb⟩; have HR2 := Lib.hid hr; have HR := Lib.hid (HR.out.below hb); have HB := Lib.hid (bnext HB.out hb); clear hr hb)
          | (go_at_call 23; refine (ascii_any A L c _ HR.out hln2).mono ?_; rintro e w' ⟨rfl, rfl⟩; rw [HPl.out])
          | (go_at_call 12; refine (wrap6_any [] 2 _ _ _ rfl).mono ?_; rintro e w2 ⟨cs2, u2, x2, rfl, hch, hb⟩; have HCh2 := Lib.hid hch; have HB2 := Lib.hid hb; clear hch hb))
        go_ret
        exact ⟨cs2, u2, x2, rfl, HCh2.out, bnext HB.out HB2.out⟩
      | false =>
        have HPl := Lib.hid hpl
        clear hpl
        cases hmk : markL L with
        | true =>
          have HMk := Lib.hid hmk
          clear hmk
          go_enter Tryd.func27, Tryd.ntmps27
          go_wp2_with (first
            | (go_at_call 45; refine HDc2.out.mono ?_; rintro e w1 ⟨A, c, rfl, hr, hb⟩; have HR := Lib.hid hr; have HB := Lib.hid hb; clear hr hb)
            | (go_at_call 11; refine (HFo.out A c _ HB.out HR.out).mono ?_; rintro e w2 ⟨A2, c2, rfl, hr, _, hb⟩; have HR2 := Lib.hid hr; have HR := Lib.hid (HR.out.below hb); have HB := Lib.hid (bnext HB.out hb); clear hr hb)
            | (go_at_call 23; refine (ascii_any A L c _ HR.out hln2).mono ?_; rintro e w' ⟨rfl, rfl⟩; rw [HPl.out])
            | (go_at_call 26; refine (markFirst_any A L c _ HR.out hln2).mono ?_; rintro e w' ⟨rfl, rfl⟩; rw [HMk.out])
            | (go_at_call 12; refine (wrap6_any [] 2 _ _ _ rfl).mono ?_; rintro e w2 ⟨cs2, u2, x2, rfl, hch, hb⟩; have HCh2 := Lib.hid hch; have HB2 := Lib.hid hb; clear hch hb))
          go_ret
          exact ⟨cs2, u2, x2, rfl, HCh2.out, bnext HB.out HB2.out⟩
        | false =>
          have HMk := Lib.hid hmk
          clear hmk
          cases hsm : same f L with
          | true =>
            have HSm := Lib.hid hsm
            clear hsm
            go_enter Tryd.func27, Tryd.ntmps27
            go_wp2_with (first
              | (go_at_call 45; refine HDc2.out.mono ?_; rintro e w1 ⟨A, c, rfl, hr, hb⟩; have HR := Lib.hid hr; have HB := Lib.hid hb; clear hr hb)
              | (go_at_call 11; refine (HFo.out A c _ HB.out HR.out).mono ?_; rintro e w2 ⟨A2, c2, rfl, hr, _, hb⟩; have HR2 := Lib.hid hr; have HR := Lib.hid (HR.out.below hb); have HB := Lib.hid (bnext HB.out hb); clear hr hb)
              | (go_at_call 23; refine (ascii_any A L c _ HR.out hln2).mono ?_; rintro e w' ⟨rfl, rfl⟩; rw [HPl.out])
              | (go_at_call 26; refine (markFirst_any A L c _ HR.out hln2).mono ?_; rintro e w' ⟨rfl, rfl⟩; rw [HMk.out])
              | (go_at_call 46; refine (equal_any A2 A f L c2 c _ HR2.out HR.out (by omega)).mono ?_; rintro e w3 ⟨rfl, hn⟩; rw [HSm.out]; have HN := Lib.hid hn; clear hn))
            go_ret
            refine ⟨rfl, ?_⟩
            obtain ⟨n, hn⟩ := HN.out
            rw [hn]
            exact below_drewN HB.out n
          | false =>
            have HSm := Lib.hid hsm
            clear hsm
            go_enter Tryd.func27, Tryd.ntmps27
            go_wp2_with (first
              | (go_at_call 45; refine HDc2.out.mono ?_; rintro e w1 ⟨A, c, rfl, hr, hb⟩; have HR := Lib.hid hr; have HB := Lib.hid hb; clear hr hb)
              | (go_at_call 11; refine (HFo.out A c _ HB.out HR.out).mono ?_; rintro e w2 ⟨A2, c2, rfl, hr, _, hb⟩; have HR2 := Lib.hid hr; have HR := Lib.hid (HR.out.below hb); have HB := Lib.hid (bnext HB.out hb); clear hr hb)
              | (go_at_call 23; refine (ascii_any A L c _ HR.out hln2).mono ?_; rintro e w' ⟨rfl, rfl⟩; rw [HPl.out])
              | (go_at_call 26; refine (markFirst_any A L c _ HR.out hln2).mono ?_; rintro e w' ⟨rfl, rfl⟩; rw [HMk.out])
              | (go_at_call 46; refine (equal_any A2 A f L c2 c _ HR2.out HR.out (by omega)).mono ?_; rintro e w3 ⟨rfl, hn⟩; rw [HSm.out]; have HN := Lib.hid hn; clear hn)
              | (go_at_call 12; refine (wrap6_any [] 2 _ _ _ rfl).mono ?_; rintro e w4 ⟨cs2, u2, x2, rfl, hch, hb⟩; have HCh2 := Lib.hid hch; have HB2 := Lib.hid hb; clear hch hb))
            go_ret
            refine ⟨cs2, u2, x2, rfl, HCh2.out, ?_⟩
            obtain ⟨n, hn⟩ := HN.out
            exact bnext (by rw [hn]; exact below_drewN HB.out n) HB2.out
end Go.Proofs.YtfaieldafoeaiaaDoor

/-
  One of package label does as the document says.
-/
namespace Go.Proofs.YtfaieldafoeaiaaDoor
open Go.RowKit

/-- Numbers that One is asked: few, or all below 128. -/
def Fit (l : List Int) : Prop := (∀ c ∈ l, R32 c) ∧ (l.length ≤ 250 ∨ (plainL l = true ∧ l.length ≤ 1400))
theorem Fit.len {l : List Int} (h : Fit l) : l.length ≤ 1400 := by rcases h.2 with h | h <;> omega
theorem plain_sub {l m : List Int} (h : plainL l = true) (hs : ∀ c ∈ m, c ∈ l) : plainL m = true := by
  unfold plainL at h ⊢
  rw [List.all_eq_true] at h ⊢
  exact fun c hc => h c (hs c hc)
theorem Fit.sub {l m : List Int} (h : Fit l) (hs : ∀ c ∈ m, c ∈ l) (hl : m.length ≤ l.length) : Fit m := by
  refine ⟨fun c hc => h.1 c (hs c hc), ?_⟩
  rcases h.2 with h' | ⟨h1, h2⟩
  · exact .inl (by omega)
  · exact .inr ⟨plain_sub h1 hs, by omega⟩
theorem any_noS {l : List Int} (h : ∀ c ∈ l, scal c = true) : l.any noS = false := by
  rw [List.any_eq_false]
  intro c hc
  unfold noS
  rw [h c hc]
  simp
theorem any_noS_not {l : List Int} (h : ¬ ∀ c ∈ l, scal c = true) : l.any noS = true := by
  cases ha : l.any noS with
  | true => rfl
  | false =>
    rw [List.any_eq_false] at ha
    refine absurd (fun c hc => ?_) h
    have := ha c hc
    unfold noS at this
    simpa using this
theorem plain_mark {l : List Int} (h : plainL l = true) : markL l = false := by
  cases l with
  | nil => rfl
  | cons c l =>
    unfold plainL at h
    rw [List.all_cons, Bool.and_eq_true, decide_eq_true_eq] at h
    show (decide (768 ≤ c) && decide (c ≤ 879)) = false
    rw [Bool.and_eq_false_iff]
    left
    simp
    omega
theorem enc_plain_len {l : List Int} (hs : ∀ c ∈ l, scal c = true) (h : plainL l = true) : (enc l).length = l.length := by
  unfold plainL at h
  rw [List.all_eq_true] at h
  rw [enc_plain (fun c hc => ((scal_iff c).1 (hs c hc)).1) (fun c hc => by simpa using h c hc), List.length_map]
theorem text_two {s : List UInt8} {w : World} {e : Ending} {w' : World} {cs : List ByteArray} {u : TypeId} {x : Value} (he : e = .returned (.tuple #[.string ⟨#[]⟩, .iface u x])) (hc : Chain w' cs (some 2) (.iface u x)) (hb : Below w.heap.size w w') : TextPost 2 s w e w' := ⟨cs, u, x, he, hc, hb⟩
theorem text_no {w : World} {e : Ending} {w' : World} {s : List UInt8} (he : e = .returned (.tuple #[.string ⟨s.toArray⟩, .nilIface])) (hb : Below w.heap.size w w') : TextPost 0 s w e w' := ⟨he, hb⟩

set_option maxHeartbeats 4000000 in
set_option maxRecDepth 100000 in
theorem one_p (PC : PunyC) (A : Option Addr) (l : List Int) (cap : Nat) (w : World) (hv : Vars w) (hr : Runes w A l) (hf : Fit l) (hcap : l.length ≤ cap) :
    Calls Tryd.prog 9 #[.slice A l.length cap] w (TextPost (oneNo (lone l)) ((lone l).getD []) w) := by
  have hln := hf.len
  have hln2 : l.length ≤ 100000 := by omega
  have hcv := convert_runes A l cap w hr
  have hel := enc_length l
  obtain ⟨st, hst⟩ : ∃ st, runesBytes l = st := ⟨_, rfl⟩
  have HST := Lib.hid (show st.data.toList = enc l by rw [← hst]; exact runes_bytes l)
  rw [hst] at hcv
  have hsz : st.size ≤ 10000 := by
    have h1 : st.size = (enc l).length := by rw [← HST.out]; simp
    omega
  clear hst hel
  have HR := Lib.hid hr
  have HV := Lib.hid hv
  have HF := Lib.hid hf
  have HPC := Lib.hid PC
  clear hr hv hf PC
  have HA := Lib.hid (ascii_any A l cap w HR.out hln2)
  have HN := Lib.hid (has_noS A l cap w HR.out hln2)
  have HM := Lib.hid (markFirst_any A l cap w HR.out hln2)
  by_cases hs : ∀ c ∈ l, scal c = true
  · rw [any_noS hs] at HN
    by_cases hx : l.take 4 = xnI
    · have HCut := Lib.hid (cutX_yes st w (by omega) (by rw [HST.out]; exact (xn_iff hs).1 hx))
      rw [lone_xn hs hx]
      have HSz4 : Hid ((st.extract 4 st.size).size = st.size - 4) := by show (st.extract 4 st.size).size = _; simp
      have HDt : Hid ((st.extract 4 st.size).data.toList = enc (l.drop 4)) := by
        show (st.extract 4 st.size).data.toList = _
        rw [extract_list, HST.out, xn_rest hx]
      clear hx
      cases hpl : plainL l with
      | false =>
        rw [hpl] at HA
        clear hpl hs
        go_enter Tryd.func9, Tryd.ntmps9
        go_wp2_with (first
          | (go_at_call 22; refine HCut.out.mono ?_; rintro e w' ⟨rfl, rfl⟩)
          | (go_at_call 23; refine HA.out.mono ?_; rintro e w' ⟨rfl, rfl⟩)
          | (go_at_call 24; refine HN.out.mono ?_; rintro e w' ⟨rfl, rfl⟩)
          | (go_at_call 26; refine HM.out.mono ?_; rintro e w' ⟨rfl, rfl⟩)
          | (go_at_call 12; refine (wrap6_any [] 2 _ _ _ rfl).mono ?_; rintro e w2 ⟨cs2, u2, x2, rfl, hch, hb⟩; have HCh2 := Lib.hid hch; have HB2 := Lib.hid hb; clear hch hb))
        go_ret2
        exact text_two rfl HCh2.out HB2.out
      | true =>
        rw [hpl] at HA
        rw [plain_mark hpl] at HM
        have hst2 : st.size ≤ 1400 := by
          have h1 : st.size = (enc l).length := by rw [← HST.out]; simp
          have h2 := enc_plain_len hs hpl
          omega
        clear hpl hs
        have HCk := Lib.hid (check_any HPC.out (st.extract 4 st.size) w HV.out (by rw [HSz4.out]; omega))
        rw [HDt.out] at HCk
        cases hok : okDec (enc (l.drop 4)) with
        | false =>
          rw [hok] at HCk
          clear hok
          go_enter Tryd.func9, Tryd.ntmps9
          go_wp2_with (first
            | (go_at_call 22; refine HCut.out.mono ?_; rintro e w' ⟨rfl, rfl⟩)
            | (go_at_call 23; refine HA.out.mono ?_; rintro e w' ⟨rfl, rfl⟩)
            | (go_at_call 24; refine HN.out.mono ?_; rintro e w' ⟨rfl, rfl⟩)
            | (go_at_call 26; refine HM.out.mono ?_; rintro e w' ⟨rfl, rfl⟩)
            | (go_at_call 27; refine HCk.out.mono ?_; rintro e w2 ⟨cs2, u2, x2, rfl, hch, hb⟩; have HCh2 := Lib.hid hch; have HB2 := Lib.hid hb; clear hch hb))
          go_ret2
          exact text_two rfl HCh2.out HB2.out
        | true =>
          rw [hok] at HCk
          clear hok
          go_enter Tryd.func9, Tryd.ntmps9
          go_wp2_with (first
            | (go_at_call 22; refine HCut.out.mono ?_; rintro e w' ⟨rfl, rfl⟩)
            | (go_at_call 23; refine HA.out.mono ?_; rintro e w' ⟨rfl, rfl⟩)
            | (go_at_call 24; refine HN.out.mono ?_; rintro e w' ⟨rfl, rfl⟩)
            | (go_at_call 26; refine HM.out.mono ?_; rintro e w' ⟨rfl, rfl⟩)
            | (go_at_call 27; refine HCk.out.mono ?_; rintro e w2 ⟨rfl, hb⟩; have HB2 := Lib.hid hb; clear hb))
          go_ret2
          exact text_no (s := enc l) (by rw [← HST.out]; rfl) HB2.out
    · have HCut := Lib.hid (cutX_no st w (by omega) (by rw [HST.out]; exact fun e => hx ((xn_iff hs).2 e)))
      cases hpl : plainL l with
      | true =>
        rw [lone_plain hs hx hpl]
        rw [hpl] at HA
        rw [plain_mark hpl] at HM
        clear hpl hs hx
        go_enter Tryd.func9, Tryd.ntmps9
        go_wp2_with (first
          | (go_at_call 22; refine HCut.out.mono ?_; rintro e w' ⟨rfl, rfl⟩)
          | (go_at_call 23; refine HA.out.mono ?_; rintro e w' ⟨rfl, rfl⟩)
          | (go_at_call 24; refine HN.out.mono ?_; rintro e w' ⟨rfl, rfl⟩)
          | (go_at_call 26; refine HM.out.mono ?_; rintro e w' ⟨rfl, rfl⟩))
        go_ret2
        exact text_no (s := enc l) (by rw [← HST.out]; rfl) (Below.refl _ _)
      | false =>
        have hl250 : l.length ≤ 250 := by
          rcases HF.out.2 with h | h
          · exact h
          · rw [hpl] at h; cases h.1
        rw [hpl] at HA
        cases hmk : markL l with
        | true =>
          rw [lone_mark hs hx hpl hmk]
          rw [hmk] at HM
          clear hpl hs hx hmk
          go_enter Tryd.func9, Tryd.ntmps9
          go_wp2_with (first
            | (go_at_call 22; refine HCut.out.mono ?_; rintro e w' ⟨rfl, rfl⟩)
            | (go_at_call 23; refine HA.out.mono ?_; rintro e w' ⟨rfl, rfl⟩)
            | (go_at_call 24; refine HN.out.mono ?_; rintro e w' ⟨rfl, rfl⟩)
            | (go_at_call 26; refine HM.out.mono ?_; rintro e w' ⟨rfl, rfl⟩)
            | (go_at_call 12; refine (wrap6_any [] 2 _ _ _ rfl).mono ?_; rintro e w2 ⟨cs2, u2, x2, rfl, hch, hb⟩; have HCh2 := Lib.hid hch; have HB2 := Lib.hid hb; clear hch hb))
          go_ret2
          exact text_two rfl HCh2.out HB2.out
        | false =>
          rw [lone_puny hs hx hpl hmk]
          rw [hmk] at HM
          obtain ⟨hz, hsc⟩ := ints_of hs
          obtain ⟨pt, hpt⟩ : ∃ pt : ByteArray, pt = ⟨(penc (l.map Int.toNat)).toArray⟩ := ⟨_, rfl⟩
          have hptb : pt.size ≤ 100000 := by
            have := penc_len hsc (by rw [List.length_map]; omega)
            rw [List.length_map] at this
            rw [hpt]
            show (penc (l.map Int.toNat)).toArray.size ≤ 100000
            simp
            omega
          have HEn : Hid (Calls Tryd.prog 28 #[.slice A l.length cap] w fun e w' => e = .returned (.tuple #[.string pt, .nilIface]) ∧ Below w.heap.size w w') := by
            have := HPC.out.encOk A (l.map Int.toNat) cap w (by rw [← hz]; exact HR.out) hsc (by rw [List.length_map]; exact hl250) (by rw [List.length_map]; exact hcap)
            rw [List.length_map] at this
            rw [hpt]
            exact this
          have HPt := Lib.hid hpt
          clear hpl hs hx hmk hz hsc hpt
          go_enter Tryd.func9, Tryd.ntmps9
          go_wp2_with (first
            | (go_at_call 22; refine HCut.out.mono ?_; rintro e w' ⟨rfl, rfl⟩)
            | (go_at_call 23; refine HA.out.mono ?_; rintro e w' ⟨rfl, rfl⟩)
            | (go_at_call 24; refine HN.out.mono ?_; rintro e w' ⟨rfl, rfl⟩)
            | (go_at_call 26; refine HM.out.mono ?_; rintro e w' ⟨rfl, rfl⟩)
            | (go_at_call 28; refine HEn.out.mono ?_; rintro e w2 ⟨rfl, hb⟩; have HB2 := Lib.hid hb; clear hb))
          go_ret2
          refine text_no (s := xnB ++ penc (l.map Int.toNat)) ?_ HB2.out
          have hcat := HPt.out
          first | rfl | (simp [xnB]; done) | (rw [hcat]; rfl)
  · rw [any_noS_not hs] at HN
    rw [lone_bad hs]
    clear hs
    by_cases hx : st.data.toList.take 4 = xnB
    · have HCut := Lib.hid (cutX_yes st w (by omega) hx)
      clear hx
      go_enter Tryd.func9, Tryd.ntmps9
      go_wp2_with (first
        | (go_at_call 22; refine HCut.out.mono ?_; rintro e w' ⟨rfl, rfl⟩)
        | (go_at_call 23; refine HA.out.mono ?_; rintro e w' ⟨rfl, rfl⟩)
        | (go_at_call 24; refine HN.out.mono ?_; rintro e w' ⟨rfl, rfl⟩)
        | (go_at_call 12; refine (wrap6_any [] 2 _ _ _ rfl).mono ?_; rintro e w2 ⟨cs2, u2, x2, rfl, hch, hb⟩; have HCh2 := Lib.hid hch; have HB2 := Lib.hid hb; clear hch hb))
      go_ret2
      exact text_two rfl HCh2.out HB2.out
    · have HCut := Lib.hid (cutX_no st w (by omega) hx)
      clear hx
      go_enter Tryd.func9, Tryd.ntmps9
      go_wp2_with (first
        | (go_at_call 22; refine HCut.out.mono ?_; rintro e w' ⟨rfl, rfl⟩)
        | (go_at_call 23; refine HA.out.mono ?_; rintro e w' ⟨rfl, rfl⟩)
        | (go_at_call 24; refine HN.out.mono ?_; rintro e w' ⟨rfl, rfl⟩)
        | (go_at_call 12; refine (wrap6_any [] 2 _ _ _ rfl).mono ?_; rintro e w2 ⟨cs2, u2, x2, rfl, hch, hb⟩; have HCh2 := Lib.hid hch; have HB2 := Lib.hid hb; clear hch hb))
      go_ret2
      exact text_two rfl HCh2.out HB2.out
end Go.Proofs.YtfaieldafoeaiaaDoor

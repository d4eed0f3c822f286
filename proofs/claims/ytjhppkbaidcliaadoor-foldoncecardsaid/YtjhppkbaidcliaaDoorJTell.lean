/-
  tell: what a code point is mapped to, handed on one by one; at the closures of Map and of Fold.
-/
import Derived.Test.YtjhppkbaidcliaaDoorJSpan
import Derived.Test.YtjhppkbaidcliaaDoorJMath
namespace Go.Proofs.YtjhppkbaidcliaaDoor
open Go.RowKit

theorem span_apart : ∀ i, i < 28 → ∀ j, j < 28 → i < j → (spanAt i).2.1 < (spanAt j).1 := by decide +kernel
theorem holds_one {c : Int} {i j : Nat} (h : Holds c i) (k : Holds c j) : i = j := by
  obtain ⟨h0, h1, h2⟩ := h
  obtain ⟨k0, k1, k2⟩ := k
  rcases Nat.lt_trichotomy i j with h | h | h
  · have := span_apart i h0 j k0 h; omega
  · exact h
  · have := span_apart j k0 i h0 h; omega
/-- What spanOf tells of a number, whatever the world. -/
def SpanIs (c a b k d : Int) : Prop := ∀ w : World, Vars w → Calls Tryd.prog 28 #[.int .i32 c] w fun e w' => e = .returned (.agg #[.int .i32 a, .int .i32 b, .int .i64 k, .int .i32 d]) ∧ Below w.heap.size w w'
theorem span_is (c : Int) (h0 : -2147483648 ≤ c) (h1 : c < 2147483648) : ∃ a b k d, SpanIs c a b k d ∧ Tells c k d := by
  by_cases h : ∃ i, Holds c i
  · obtain ⟨i, hi⟩ := h
    refine ⟨(spanAt i).1, (spanAt i).2.1, (spanAt i).2.2.1, (spanAt i).2.2.2, fun w hv => (spanOf_any c w hv).mono ?_, span_tells hi⟩
    rintro e w' ⟨⟨j, hj, rfl⟩ | ⟨hf, rfl⟩, hb⟩
    · rw [holds_one hi hj]; exact ⟨rfl, hb⟩
    · obtain ⟨x, y, z⟩ := hi
      have := hf i x
      omega
  · refine ⟨0, 0, 0, 0, fun w hv => (spanOf_any c w hv).mono ?_, ?_⟩
    · rintro e w' ⟨⟨j, hj, rfl⟩ | ⟨hf, rfl⟩, hb⟩
      · exact absurd ⟨j, hj⟩ h
      · exact ⟨rfl, hb⟩
    · have hf : Free c := fun i hi => by
        rcases Int.lt_or_le c (spanAt i).1 with x | x
        · exact .inl x
        · rcases Int.lt_or_le (spanAt i).2.1 c with y | y
          · exact .inr y
          · exact absurd ⟨i, hi, x, y⟩ h
      obtain ⟨a, b, e, f⟩ := free_tells hf h0 h1
      exact .inr (.inr (.inr (.inr (.inr ⟨rfl, a, by rw [b]; simp, e, f, by omega, by omega⟩))))
theorem span_wide (c : Int) (h0 : 65281 ≤ c) (h1 : c ≤ 65374) : ∃ a b d, SpanIs c a b 4 d := by
  have hi : Holds c 24 := ⟨by omega, h0, h1⟩
  refine ⟨65281, 65374, 0, fun w hv => (spanOf_any c w hv).mono ?_⟩
  rintro e w' ⟨⟨j, hj, rfl⟩ | ⟨hf, rfl⟩, hb⟩
  · rw [← holds_one hi hj]; exact ⟨rfl, hb⟩
  · obtain ⟨x, y, z⟩ := hi
    have := hf 24 x
    omega

def TellPost (I : List Int → World → Prop) (acc : List Int) (c : Int) (e : Ending) (w' : World) : Prop :=
  (Barred c ∧ e = .returned (.bool false) ∧ I acc w') ∨ (¬ Barred c ∧ e = .returned (.bool true) ∧ I (acc ++ mapTo c) w')
/-- What is asked of a closure that is handed code points: something of the world that new memory leaves as it is, and that a call takes one further. -/
structure Takes (f : Nat) (p : Addr) (I : List Int → World → Prop) : Prop where
  carry : ∀ acc w w', I acc w → Below w.heap.size w w' → I acc w'
  vars : ∀ acc w, I acc w → Vars w
  call : ∀ acc x w, I acc w → acc.length ≤ 2990 → Calls Tryd.prog f #[.int .i32 x, .pointer (some p)] w fun e w' => e = .returned (.tuple #[]) ∧ I (acc ++ [x]) w'

set_option maxHeartbeats 1000000 in
set_option maxRecDepth 100000 in
theorem tell_flat_map (p : Addr) (I : List Int → World → Prop) (T : Takes 19 p I) (c : Int) (acc : List Int) (w : World) (hi : I acc w) (hl : acc.length ≤ 2900) (h0 : -2147483648 ≤ c) (h1 : c < 2147483648) (hn : ¬ (65281 ≤ c ∧ c ≤ 65374)) :
    Calls Tryd.prog 18 #[.int .i32 c, .func (.func 19) #[] #[.pointer (some p)]] w (TellPost I acc c) := by
  obtain ⟨a, b, k, d, hs, ht⟩ := span_is c h0 h1
  have HT := Lib.hid T
  have HS := Lib.hid hs
  have HI := Lib.hid hi
  clear T hs hi
  rcases ht with ⟨rfl, hb⟩ | ⟨rfl, hb, hm⟩ | ⟨rfl, hb, hm⟩ | ⟨_, hx⟩ | ⟨rfl, hb, hm⟩ | ⟨rfl, hb, hm, hc0, hc1, hd0, hd1⟩
  · have HBd := Lib.hid hb
    clear hb
    go_enter Tryd.func18, Tryd.ntmps18
    go_wp2_with (first
      | (go_at_call 28; refine (HS.out _ (HT.out.vars _ _ HI.out)).mono ?_; rintro e w1 ⟨rfl, hb⟩; have HI1 := Lib.hid (HT.out.carry _ _ _ (HT.out.carry _ _ _ HI.out hb) ((Below.refl _ _).alloc (Nat.le_refl _) (.cells #[.int .i32 a, .int .i32 b, .int .i64 1, .int .i32 d] 52))); clear hb))
    go_ret
    exact .inl ⟨HBd.out, rfl, HI1.out⟩
  · have HBd := Lib.hid hb
    have HM := Lib.hid hm
    clear hb hm
    go_enter Tryd.func18, Tryd.ntmps18
    go_wp2_with (first
      | (go_at_call 28; refine (HS.out _ (HT.out.vars _ _ HI.out)).mono ?_; rintro e w1 ⟨rfl, hb⟩; have HI1 := Lib.hid (HT.out.carry _ _ _ (HT.out.carry _ _ _ HI.out hb) ((Below.refl _ _).alloc (Nat.le_refl _) (.cells #[.int .i32 a, .int .i32 b, .int .i64 2, .int .i32 d] 52))); clear hb))
    go_ret
    exact .inr ⟨HBd.out, rfl, by rw [HM.out, List.append_nil]; exact HI1.out⟩
  · have HBd := Lib.hid hb
    have HM := Lib.hid hm
    clear hb hm
    go_enter Tryd.func18, Tryd.ntmps18
    go_wp2_with (first
      | (go_at_call 28; refine (HS.out _ (HT.out.vars _ _ HI.out)).mono ?_; rintro e w1 ⟨rfl, hb⟩; have HI1 := Lib.hid (HT.out.carry _ _ _ (HT.out.carry _ _ _ HI.out hb) ((Below.refl _ _).alloc (Nat.le_refl _) (.cells #[.int .i32 a, .int .i32 b, .int .i64 3, .int .i32 d] 52))); clear hb)
      | (go_at_call 19; refine (HT.out.call acc _ _ HI1.out (by omega)).mono ?_; rintro e w2 ⟨rfl, hi2⟩; have HI2 := Lib.hid hi2; clear hi2))
    go_ret
    exact .inr ⟨HBd.out, rfl, by rw [HM.out]; exact HI2.out⟩
  · omega
  · have HBd := Lib.hid hb
    have HM := Lib.hid hm
    clear hb hm
    go_enter Tryd.func18, Tryd.ntmps18
    go_wp2_with (first
      | (go_at_call 28; refine (HS.out _ (HT.out.vars _ _ HI.out)).mono ?_; rintro e w1 ⟨rfl, hb⟩; have HI1 := Lib.hid (HT.out.carry _ _ _ (HT.out.carry _ _ _ HI.out hb) ((Below.refl _ _).alloc (Nat.le_refl _) (.cells #[.int .i32 a, .int .i32 b, .int .i64 5, .int .i32 d] 52))); clear hb)
      | (go_at_call 19; refine (HT.out.call (acc ++ [115]) _ _ HI2.out (by simp; omega)).mono ?_; rintro e w3 ⟨rfl, hi3⟩; have HI3 := Lib.hid hi3; clear hi3)
      | (go_at_call 19; refine (HT.out.call acc _ _ HI1.out (by omega)).mono ?_; rintro e w2 ⟨rfl, hi2⟩; have HI2 := Lib.hid hi2; clear hi2))
    go_ret
    exact .inr ⟨HBd.out, rfl, by rw [HM.out]; have := HI3.out; rw [List.append_assoc] at this; exact this⟩
  · have HBd := Lib.hid hb
    have HM := Lib.hid hm
    clear hb hm
    go_enter Tryd.func18, Tryd.ntmps18
    go_wp2_with (first
      | (go_at_call 28; refine (HS.out _ (HT.out.vars _ _ HI.out)).mono ?_; rintro e w1 ⟨rfl, hb⟩; have HI1 := Lib.hid (HT.out.carry _ _ _ (HT.out.carry _ _ _ HI.out hb) ((Below.refl _ _).alloc (Nat.le_refl _) (.cells #[.int .i32 a, .int .i32 b, .int .i64 0, .int .i32 d] 52))); clear hb)
      | (go_at_call 19; refine (HT.out.call acc _ _ HI1.out (by omega)).mono ?_; rintro e w2 ⟨rfl, hi2⟩; have HI2 := Lib.hid hi2; clear hi2))
    go_ret
    exact .inr ⟨HBd.out, rfl, by rw [HM.out]; exact HI2.out⟩

set_option maxHeartbeats 1000000 in
set_option maxRecDepth 100000 in
theorem tell_map (p : Addr) (I : List Int → World → Prop) (T : Takes 19 p I) (c : Int) (acc : List Int) (w : World) (hi : I acc w) (hl : acc.length ≤ 2900) (h0 : -2147483648 ≤ c) (h1 : c < 2147483648) :
    Calls Tryd.prog 18 #[.int .i32 c, .func (.func 19) #[] #[.pointer (some p)]] w (TellPost I acc c) := by
  by_cases hn : 65281 ≤ c ∧ c ≤ 65374
  · obtain ⟨a, b, d, hs⟩ := span_wide c hn.1 hn.2
    obtain ⟨hw1, hw2, hw3⟩ := wide_back hn.1 hn.2
    have HT := Lib.hid T
    have HS := Lib.hid hs
    have HI := Lib.hid hi
    have HW := Lib.hid (And.intro hw1 (And.intro hw2 hw3))
    clear T hs hi hw1 hw2 hw3
    obtain ⟨n1, n2⟩ := hn
    go_enter Tryd.func18, Tryd.ntmps18
    go_wp2_with (first
      | (go_at_call 28; refine (HS.out _ (HT.out.vars _ _ HI.out)).mono ?_; rintro e w1 ⟨rfl, hb⟩; have HI1 := Lib.hid (HT.out.carry _ _ _ (HT.out.carry _ _ _ HI.out hb) ((Below.refl _ _).alloc (Nat.le_refl _) (.cells #[.int .i32 a, .int .i32 b, .int .i64 4, .int .i32 d] 52))); clear hb)
      | (go_at_call 18; refine (tell_flat_map p I HT.out (c - 65248) acc _ HI1.out hl (by omega) (by omega) (by omega)).mono ?_
         rintro e w2 (⟨hb, _⟩ | ⟨_, rfl, hi2⟩)
         · exact absurd hb HW.out.2.1
         have HI2 := Lib.hid hi2; clear hi2))
    go_ret
    exact .inr ⟨HW.out.1, rfl, by rw [← HW.out.2.2]; exact HI2.out⟩
  · exact tell_flat_map p I T c acc w hi hl h0 h1 hn

set_option maxHeartbeats 1000000 in
set_option maxRecDepth 100000 in
theorem tell_flat_fold (p : Addr) (I : List Int → World → Prop) (T : Takes 21 p I) (c : Int) (acc : List Int) (w : World) (hi : I acc w) (hl : acc.length ≤ 2900) (h0 : -2147483648 ≤ c) (h1 : c < 2147483648) (hn : ¬ (65281 ≤ c ∧ c ≤ 65374)) :
    Calls Tryd.prog 18 #[.int .i32 c, .func (.func 21) #[] #[.pointer (some p)]] w (TellPost I acc c) := by
  obtain ⟨a, b, k, d, hs, ht⟩ := span_is c h0 h1
  have HT := Lib.hid T
  have HS := Lib.hid hs
  have HI := Lib.hid hi
  clear T hs hi
  rcases ht with ⟨rfl, hb⟩ | ⟨rfl, hb, hm⟩ | ⟨rfl, hb, hm⟩ | ⟨_, hx⟩ | ⟨rfl, hb, hm⟩ | ⟨rfl, hb, hm, hc0, hc1, hd0, hd1⟩
  · have HBd := Lib.hid hb
    clear hb
    go_enter Tryd.func18, Tryd.ntmps18
    go_wp2_with (first
      | (go_at_call 28; refine (HS.out _ (HT.out.vars _ _ HI.out)).mono ?_; rintro e w1 ⟨rfl, hb⟩; have HI1 := Lib.hid (HT.out.carry _ _ _ (HT.out.carry _ _ _ HI.out hb) ((Below.refl _ _).alloc (Nat.le_refl _) (.cells #[.int .i32 a, .int .i32 b, .int .i64 1, .int .i32 d] 52))); clear hb))
    go_ret
    exact .inl ⟨HBd.out, rfl, HI1.out⟩
  · have HBd := Lib.hid hb
    have HM := Lib.hid hm
    clear hb hm
    go_enter Tryd.func18, Tryd.ntmps18
    go_wp2_with (first
      | (go_at_call 28; refine (HS.out _ (HT.out.vars _ _ HI.out)).mono ?_; rintro e w1 ⟨rfl, hb⟩; have HI1 := Lib.hid (HT.out.carry _ _ _ (HT.out.carry _ _ _ HI.out hb) ((Below.refl _ _).alloc (Nat.le_refl _) (.cells #[.int .i32 a, .int .i32 b, .int .i64 2, .int .i32 d] 52))); clear hb))
    go_ret
    exact .inr ⟨HBd.out, rfl, by rw [HM.out, List.append_nil]; exact HI1.out⟩
  · have HBd := Lib.hid hb
    have HM := Lib.hid hm
    clear hb hm
    go_enter Tryd.func18, Tryd.ntmps18
    go_wp2_with (first
      | (go_at_call 28; refine (HS.out _ (HT.out.vars _ _ HI.out)).mono ?_; rintro e w1 ⟨rfl, hb⟩; have HI1 := Lib.hid (HT.out.carry _ _ _ (HT.out.carry _ _ _ HI.out hb) ((Below.refl _ _).alloc (Nat.le_refl _) (.cells #[.int .i32 a, .int .i32 b, .int .i64 3, .int .i32 d] 52))); clear hb)
      | (go_at_call 21; refine (HT.out.call acc _ _ HI1.out (by omega)).mono ?_; rintro e w2 ⟨rfl, hi2⟩; have HI2 := Lib.hid hi2; clear hi2))
    go_ret
    exact .inr ⟨HBd.out, rfl, by rw [HM.out]; exact HI2.out⟩
  · omega
  · have HBd := Lib.hid hb
    have HM := Lib.hid hm
    clear hb hm
    go_enter Tryd.func18, Tryd.ntmps18
    go_wp2_with (first
      | (go_at_call 28; refine (HS.out _ (HT.out.vars _ _ HI.out)).mono ?_; rintro e w1 ⟨rfl, hb⟩; have HI1 := Lib.hid (HT.out.carry _ _ _ (HT.out.carry _ _ _ HI.out hb) ((Below.refl _ _).alloc (Nat.le_refl _) (.cells #[.int .i32 a, .int .i32 b, .int .i64 5, .int .i32 d] 52))); clear hb)
      | (go_at_call 21; refine (HT.out.call (acc ++ [115]) _ _ HI2.out (by simp; omega)).mono ?_; rintro e w3 ⟨rfl, hi3⟩; have HI3 := Lib.hid hi3; clear hi3)
      | (go_at_call 21; refine (HT.out.call acc _ _ HI1.out (by omega)).mono ?_; rintro e w2 ⟨rfl, hi2⟩; have HI2 := Lib.hid hi2; clear hi2))
    go_ret
    exact .inr ⟨HBd.out, rfl, by rw [HM.out]; have := HI3.out; rw [List.append_assoc] at this; exact this⟩
  · have HBd := Lib.hid hb
    have HM := Lib.hid hm
    clear hb hm
    go_enter Tryd.func18, Tryd.ntmps18
    go_wp2_with (first
      | (go_at_call 28; refine (HS.out _ (HT.out.vars _ _ HI.out)).mono ?_; rintro e w1 ⟨rfl, hb⟩; have HI1 := Lib.hid (HT.out.carry _ _ _ (HT.out.carry _ _ _ HI.out hb) ((Below.refl _ _).alloc (Nat.le_refl _) (.cells #[.int .i32 a, .int .i32 b, .int .i64 0, .int .i32 d] 52))); clear hb)
      | (go_at_call 21; refine (HT.out.call acc _ _ HI1.out (by omega)).mono ?_; rintro e w2 ⟨rfl, hi2⟩; have HI2 := Lib.hid hi2; clear hi2))
    go_ret
    exact .inr ⟨HBd.out, rfl, by rw [HM.out]; exact HI2.out⟩

set_option maxHeartbeats 1000000 in
set_option maxRecDepth 100000 in
theorem tell_fold (p : Addr) (I : List Int → World → Prop) (T : Takes 21 p I) (c : Int) (acc : List Int) (w : World) (hi : I acc w) (hl : acc.length ≤ 2900) (h0 : -2147483648 ≤ c) (h1 : c < 2147483648) :
    Calls Tryd.prog 18 #[.int .i32 c, .func (.func 21) #[] #[.pointer (some p)]] w (TellPost I acc c) := by
  by_cases hn : 65281 ≤ c ∧ c ≤ 65374
  · obtain ⟨a, b, d, hs⟩ := span_wide c hn.1 hn.2
    obtain ⟨hw1, hw2, hw3⟩ := wide_back hn.1 hn.2
    have HT := Lib.hid T
    have HS := Lib.hid hs
    have HI := Lib.hid hi
    have HW := Lib.hid (And.intro hw1 (And.intro hw2 hw3))
    clear T hs hi hw1 hw2 hw3
    obtain ⟨n1, n2⟩ := hn
    go_enter Tryd.func18, Tryd.ntmps18
    go_wp2_with (first
      | (go_at_call 28; refine (HS.out _ (HT.out.vars _ _ HI.out)).mono ?_; rintro e w1 ⟨rfl, hb⟩; have HI1 := Lib.hid (HT.out.carry _ _ _ (HT.out.carry _ _ _ HI.out hb) ((Below.refl _ _).alloc (Nat.le_refl _) (.cells #[.int .i32 a, .int .i32 b, .int .i64 4, .int .i32 d] 52))); clear hb)
      | (go_at_call 18; refine (tell_flat_fold p I HT.out (c - 65248) acc _ HI1.out hl (by omega) (by omega) (by omega)).mono ?_
         rintro e w2 (⟨hb, _⟩ | ⟨_, rfl, hi2⟩)
         · exact absurd hb HW.out.2.1
         have HI2 := Lib.hid hi2; clear hi2))
    go_ret
    exact .inr ⟨HW.out.1, rfl, by rw [← HW.out.2.2]; exact HI2.out⟩
  · exact tell_flat_fold p I T c acc w hi hl h0 h1 hn
end Go.Proofs.YtjhppkbaidcliaaDoor

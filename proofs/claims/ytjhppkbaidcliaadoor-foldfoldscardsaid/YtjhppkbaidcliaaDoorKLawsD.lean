/-
  FoldFolds, walked over the program's contracts: whatever the input, true.
-/
import Derived.Test.YtjhppkbaidcliaaDoorKCon
import Derived.Test.YtjhppkbaidcliaaDoorFFind
namespace Go.Proofs.YtjhppkbaidcliaaDoor
open Go.RowKit

theorem RowN.runes {B : Nat} {w : World} {v : Value} {l : List Int} (h : RowN B w v l) : ∃ A c, v = .slice A l.length c ∧ Runes w A l ∧ l.length ≤ c := by
  have h' : w.ownsRow B 21 1 v l.length (l.map (Value.int .i32)) := h
  rcases h.2 with ⟨rfl, h0⟩ | ⟨g, cap, cur, rfl, hh⟩
  · obtain rfl := List.eq_nil_of_length_eq_zero h0
    exact ⟨none, 0, rfl, fun i s hs => by simp at hs, Nat.le_refl _⟩
  · refine ⟨_, _, rfl, fun i s hs => ?_, hh.2.2.1⟩
    have hi : i < l.length := (List.getElem?_eq_some_iff.1 hs).1
    have hc := h'.cellAt (g := g) i (by simpa using hi)
    refine ⟨g, 0, rfl, (Array.getElem?_eq_some_iff.1 hh.2.1).1, ?_⟩
    rw [Nat.zero_add, hc, List.getElem?_map, hs]; rfl

set_option maxHeartbeats 2000000 in
set_option maxRecDepth 100000 in
theorem law_folds (A : Option Addr) (l : List Int) (cap : Nat) (w : World) (hr : Runes w A l) (hs : l.length ≤ maxLen) (hcap : l.length ≤ cap ∧ (A = none → cap = 0)) (hrg : ∀ c ∈ l, -2147483648 ≤ c ∧ c < 2147483648) (hg : Ready w) (C : FoldC w) :
    Calls Tryd.prog 4 #[.slice A l.length cap] w (Yes w) := by
  unfold maxLen at hs
  have HC := Lib.hid C
  have HR := Lib.hid hr
  have HG := Lib.hid hg
  have HCap := Lib.hid hcap
  have HRg : Hid (∀ c ∈ l, R32 c) := hrg
  clear C hr hg hcap hrg
  by_cases h : l.length ≤ 100
  · have h2 : l.length ≤ 500 := by omega
    have h3 : l.length ≤ 900 := by omega
    have h4 : l.length ≤ 1000 := by omega
    have h5 : l.length ≤ 2000 := by omega
    obtain ⟨k, hk⟩ : ∃ k, comp l = k := ⟨_, rfl⟩
    have hkl : k.length ≤ 100 := by have := comp_length _ l (Nat.le_refl _); rw [hk] at this; omega
    have HK := Lib.hid hk
    clear hk
    cases hf : foldL l with
    | none =>
      have HF := Lib.hid hf
      clear hf
      go_enter Tryd.func4, Tryd.ntmps4
      go_wp2_with (first
        | (go_at_call 8; refine (awake_any HC.out).mono ?_; rintro e w1 ⟨rfl, hb⟩; have HB := Lib.hid hb; clear hb)
        | (at_builtin
           refine append_from rfl (.tmp 14) (.tmp 15) rfl w1.heap.size _ [] A l.length cap l rfl rfl (rowN_new w1) ((HR.out.below HB.out).below ((Below.refl _ _).alloc (Nat.le_refl _) _)) rfl HCap.out.2 ?q1 ?q2 ?_
           case q1 => simp; omega
           case q2 => simp
           intro v2 w2 hr2 hb2
           rw [List.nil_append] at hr2
           obtain ⟨A2, c2, e2, hrr2, _⟩ := RowN.runes hr2
           subst e2
           have HR2 := Lib.hid hrr2
           have HB := Lib.hid (bnext HB.out (((Below.refl w1.heap.size w1).alloc (Nat.le_refl _) _).trans hb2))
           clear hr2 hb2 hrr2)
        | (go_at_call 12; refine (HC.out.fold A l cap _ HB.out HRg.out (HR.out.below HB.out) h2 HCap.out.1).mono ?_; rw [HF.out]; rintro e w3 ⟨cs, u, x, rfl, hch, hb⟩; have HCh := Lib.hid hch; have HR2 := Lib.hid (HR2.out.below hb); have HB := Lib.hid (bnext HB.out hb); clear hb hch)
        | (go_at_call 13; refine (refFold_any A l cap _ (HR.out.below HB.out) h3).mono ?_; rw [HF.out]; rintro e w4 ⟨rfl, hb⟩; have HCh := Lib.hid (HCh.out.below hb); have HR2 := Lib.hid (HR2.out.below hb); have HB := Lib.hid (bnext HB.out hb); clear hb)
        | (go_at_call 11; (with_reducible refine (same_yes none none [] [] 0 0 0 0 _ rfl rfl Runes.nil_ Runes.nil_ (by simp) rfl).mono ?_); rintro e w5 ⟨rfl, hb⟩; have HCh := Lib.hid (HCh.out.below hb); have HR2 := Lib.hid (HR2.out.below hb); have HB := Lib.hid (bnext HB.out hb); clear hb)
        | (go_at_call 14; refine (code_some cs 2 u x _ HCh.out (HG.out.below HB.out)).mono ?_; rintro e w6 ⟨rfl, hb⟩; have HR2 := Lib.hid (HR2.out.below hb); have HB := Lib.hid (bnext HB.out hb); clear hb)
        | (go_at_call 15; refine (HC.out.comp A l cap _ HB.out (HR.out.below HB.out) h4 HCap.out.1).mono ?_; rw [HK.out]; rintro e w7 ⟨A7, c7, rfl, hr7, _, hb⟩; have HR7 := Lib.hid hr7; have HR2 := Lib.hid (HR2.out.below hb); have HB := Lib.hid (bnext HB.out hb); clear hb hr7)
        | (go_at_call 16; refine (compose_any A l cap _ (HR.out.below HB.out) h5).mono ?_; rw [HK.out]; rintro e w8 ⟨v8, rfl, hm8⟩; obtain ⟨A8, c8, e8, hr8⟩ := hm8.runes; subst e8; have HR8 := Lib.hid hr8; have HR7 := Lib.hid (HR7.out.below hm8.2); have HR2 := Lib.hid (HR2.out.below hm8.2); have HB := Lib.hid (bnext HB.out hm8.2); clear hm8 hr8)
        | (go_at_call 11; (with_reducible refine (same_yes A7 A8 k k k.length k.length c7 c8 _ rfl rfl HR7.out HR8.out (by omega) rfl).mono ?_); rintro e w9 ⟨rfl, hb⟩; have HR2 := Lib.hid (HR2.out.below hb); have HB := Lib.hid (bnext HB.out hb); clear hb)
        | (go_at_call 11; (with_reducible refine (same_yes A A2 l l l.length l.length cap c2 _ rfl rfl (HR.out.below HB.out) HR2.out (by omega) rfl).mono ?_); rintro e w10 ⟨rfl, hb⟩; have HB := Lib.hid (bnext HB.out hb); clear hb))
      go_ret
      exact ⟨rfl, HB.out⟩
    | some a =>
      have hal : a.length ≤ 200 := by have := fold_length hf; omega
      have HF := Lib.hid hf
      clear hf
      go_enter Tryd.func4, Tryd.ntmps4
      go_wp2_with (first
        | (go_at_call 8; refine (awake_any HC.out).mono ?_; rintro e w1 ⟨rfl, hb⟩; have HB := Lib.hid hb; clear hb)
        | (at_builtin
           refine append_from rfl (.tmp 14) (.tmp 15) rfl w1.heap.size _ [] A l.length cap l rfl rfl (rowN_new w1) ((HR.out.below HB.out).below ((Below.refl _ _).alloc (Nat.le_refl _) _)) rfl HCap.out.2 ?q1 ?q2 ?_
           case q1 => simp; omega
           case q2 => simp
           intro v2 w2 hr2 hb2
           rw [List.nil_append] at hr2
           obtain ⟨A2, c2, e2, hrr2, _⟩ := RowN.runes hr2
           subst e2
           have HR2 := Lib.hid hrr2
           have HB := Lib.hid (bnext HB.out (((Below.refl w1.heap.size w1).alloc (Nat.le_refl _) _).trans hb2))
           clear hr2 hb2 hrr2)
        | (go_at_call 12; refine (HC.out.fold A l cap _ HB.out HRg.out (HR.out.below HB.out) h2 HCap.out.1).mono ?_; rw [HF.out]; rintro e w3 ⟨A3, c3, rfl, hr3, _, hb⟩; have HR3 := Lib.hid hr3; have HR2 := Lib.hid (HR2.out.below hb); have HB := Lib.hid (bnext HB.out hb); clear hb hr3)
        | (go_at_call 13; refine (refFold_any A l cap _ (HR.out.below HB.out) h3).mono ?_; rw [HF.out]; rintro e w4 ⟨v4, rfl, hm4⟩; obtain ⟨A4, c4, e4, hr4⟩ := hm4.runes; subst e4; have HR4 := Lib.hid hr4; have HR3 := Lib.hid (HR3.out.below hm4.2); have HR2 := Lib.hid (HR2.out.below hm4.2); have HB := Lib.hid (bnext HB.out hm4.2); clear hm4 hr4)
        | (go_at_call 11; (with_reducible refine (same_yes A3 A4 a a a.length a.length c3 c4 _ rfl rfl HR3.out HR4.out (by omega) rfl).mono ?_); rintro e w5 ⟨rfl, hb⟩; have HR2 := Lib.hid (HR2.out.below hb); have HB := Lib.hid (bnext HB.out hb); clear hb)
        | (go_at_call 14; refine (code_nil _).mono ?_; rintro e w' ⟨rfl, rfl⟩)
        | (go_at_call 15; refine (HC.out.comp A l cap _ HB.out (HR.out.below HB.out) h4 HCap.out.1).mono ?_; rw [HK.out]; rintro e w7 ⟨A7, c7, rfl, hr7, _, hb⟩; have HR7 := Lib.hid hr7; have HR2 := Lib.hid (HR2.out.below hb); have HB := Lib.hid (bnext HB.out hb); clear hb hr7)
        | (go_at_call 16; refine (compose_any A l cap _ (HR.out.below HB.out) h5).mono ?_; rw [HK.out]; rintro e w8 ⟨v8, rfl, hm8⟩; obtain ⟨A8, c8, e8, hr8⟩ := hm8.runes; subst e8; have HR8 := Lib.hid hr8; have HR7 := Lib.hid (HR7.out.below hm8.2); have HR2 := Lib.hid (HR2.out.below hm8.2); have HB := Lib.hid (bnext HB.out hm8.2); clear hm8 hr8)
        | (go_at_call 11; (with_reducible refine (same_yes A7 A8 k k k.length k.length c7 c8 _ rfl rfl HR7.out HR8.out (by omega) rfl).mono ?_); rintro e w9 ⟨rfl, hb⟩; have HR2 := Lib.hid (HR2.out.below hb); have HB := Lib.hid (bnext HB.out hb); clear hb)
        | (go_at_call 11; (with_reducible refine (same_yes A A2 l l l.length l.length cap c2 _ rfl rfl (HR.out.below HB.out) HR2.out (by omega) rfl).mono ?_); rintro e w10 ⟨rfl, hb⟩; have HB := Lib.hid (bnext HB.out hb); clear hb))
      go_ret
      exact ⟨rfl, HB.out⟩
  · go_enter Tryd.func4, Tryd.ntmps4
    go_wp2_with (go_at_call 8; refine (awake_any HC.out).mono ?_; rintro e w1 ⟨rfl, hb1⟩)
    go_ret
    exact ⟨rfl, hb1⟩
end Go.Proofs.YtjhppkbaidcliaaDoor

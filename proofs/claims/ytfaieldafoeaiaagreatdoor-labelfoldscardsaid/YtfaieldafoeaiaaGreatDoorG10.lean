/-
  In this text, one behind the other: LLawsD.
-/
import Derived.Test.YtfaieldafoeaiaaGreatDoorG6
import Derived.Test.YtfaieldafoeaiaaGreatDoorG2
/-
  LabelOne, LabelAll, LabelFolds, walked over the program's contracts: whatever the input, true.
-/
namespace Go.Proofs.YtfaieldafoeaiaaGreatDoor
open Go.RowKit

theorem lall_no (l : List Int) {n : Nat} {s : List UInt8} (h : lall l = (n, s)) : (n = 0) ∨ (n = 2 ∧ s = []) ∨ (n = 3 ∧ s = []) := by
  unfold lall at h
  cases hf : foldL l with
  | none => rw [hf] at h; cases h; exact .inr (.inl ⟨rfl, rfl⟩)
  | some f =>
    rw [hf] at h
    cases hm : mapOne (partsOf f) with
    | none => simp only [hm] at h; cases h; exact .inr (.inl ⟨rfl, rfl⟩)
    | some xs =>
      simp only [hm] at h
      split at h
      · cases h; exact .inr (.inr ⟨rfl, rfl⟩)
      · cases h; exact .inl rfl
theorem fit_of {w w' : World} {v : Value} {l : List Int} {A : Option Addr} {c : Nat} (h : Made w w' v l) (hv : v = .slice A l.length c) : l.length ≤ c ∧ (A = none → c = 0) := by
  rcases made_cap h hv with ⟨h1, h2, h3⟩ | ⟨⟨g, h1⟩, h2, _⟩
  · exact ⟨by omega, fun _ => h3⟩
  · exact ⟨h2, fun e => by rw [h1] at e; cases e⟩

set_option maxHeartbeats 2000000 in
set_option maxRecDepth 100000 in
theorem law_lone (A : Option Addr) (l : List Int) (cap : Nat) (w : World) (hr : Runes w A l) (hs : l.length ≤ maxLen) (hcap : l.length ≤ cap ∧ (A = none → cap = 0)) (hrg : ∀ c ∈ l, -2147483648 ≤ c ∧ c < 2147483648) (hg : Ready w) (C : LabelC w) :
    Calls Tryz.prog 3 #[.slice A l.length cap] w (Yes w) := by
  unfold maxLen at hs
  have HC := Lib.hid C
  have HR := Lib.hid hr
  have HG := Lib.hid hg
  have HCap := Lib.hid hcap
  have HRg : Hid (∀ c ∈ l, R32 c) := hrg
  clear C hr hg hcap hrg
  by_cases h : l.length ≤ 60
  · have h2 : l.length ≤ 220 := by omega
    have HA : Hid (∀ w1, Below w.heap.size w w1 → Runes w1 A l → Calls Tryz.prog 7 #[.slice A l.length cap] w1 (TextPost (oneNo (lone l)) ((lone l).getD []) w1)) := fun w1 hb1 h1 => HC.out.one A l cap w1 hb1 HRg.out h1 h HCap.out
    have HD : Hid (∀ w1, Runes w1 A l → Calls Tryz.prog 8 #[.slice A l.length cap] w1 (OnePost (lone l) w1)) := fun w1 h1 => one_any6 A l cap w1 h1 h2
    cases hn : lone l with
    | none =>
      rw [hn] at HA HD
      clear hn
      go_enter Tryz.func3, Tryz.ntmps3
      go_wp2_with (first
        | (go_at_call 6; refine (awake6 HC.out).mono ?_; rintro e w1 ⟨rfl, hb⟩; have HB := Lib.hid hb; clear hb)
        | (go_at_call 7; refine (HA.out _ HB.out (HR.out.below HB.out)).mono ?_; rintro e w2 ⟨cs, u, x, rfl, hch, hb⟩; have HCh := Lib.hid hch; have HB := Lib.hid (bnext HB.out hb); clear hb hch)
        | (go_at_call 8; refine (HD.out _ (HR.out.below HB.out)).mono ?_; rintro e w3 ⟨rfl, hb⟩; have HCh := Lib.hid (HCh.out.below hb); have HB := Lib.hid (bnext HB.out hb); clear hb)
        | (go_at_call 9; refine (code_some cs 2 u x _ HCh.out (HG.out.below HB.out)).mono ?_; rintro e w4 ⟨rfl, hb⟩; have HB := Lib.hid (bnext HB.out hb); clear hb))
      go_ret
      exact ⟨rfl, HB.out⟩
    | some s =>
      rw [hn] at HA HD
      clear hn
      go_enter Tryz.func3, Tryz.ntmps3
      go_wp2_with (first
        | (go_at_call 6; refine (awake6 HC.out).mono ?_; rintro e w1 ⟨rfl, hb⟩; have HB := Lib.hid hb; clear hb)
        | (go_at_call 7; refine (HA.out _ HB.out (HR.out.below HB.out)).mono ?_; rintro e w2 ⟨rfl, hb⟩; rw [show (some s).getD [] = s from rfl]; obtain ⟨t, ht⟩ : ∃ t : ByteArray, (⟨s.toArray⟩ : ByteArray) = t := ⟨_, rfl⟩; rw [ht]; have HT := Lib.hid ht; have HB := Lib.hid (bnext HB.out hb); clear hb ht)
        | (go_at_call 8; refine (HD.out _ (HR.out.below HB.out)).mono ?_; rintro e w3 ⟨rfl, hb⟩; rw [HT.out]; have HB := Lib.hid (bnext HB.out hb); clear hb)
        | (go_at_call 9; refine (code_nil _).mono ?_; rintro e w' ⟨rfl, rfl⟩))
      go_ret
      exact ⟨rfl, HB.out⟩
  · go_enter Tryz.func3, Tryz.ntmps3
    go_wp2_with (go_at_call 6; refine (awake6 HC.out).mono ?_; rintro e w1 ⟨rfl, hb1⟩)
    go_ret
    exact ⟨rfl, hb1⟩

set_option maxHeartbeats 2000000 in
set_option maxRecDepth 100000 in
theorem law_lall (A : Option Addr) (l : List Int) (cap : Nat) (w : World) (hr : Runes w A l) (hs : l.length ≤ maxLen) (hcap : l.length ≤ cap ∧ (A = none → cap = 0)) (hrg : ∀ c ∈ l, -2147483648 ≤ c ∧ c < 2147483648) (hg : Ready w) (C : LabelC w) :
    Calls Tryz.prog 4 #[.slice A l.length cap] w (Yes w) := by
  unfold maxLen at hs
  have HC := Lib.hid C
  have HR := Lib.hid hr
  have HG := Lib.hid hg
  have HCap := Lib.hid hcap
  have HRg : Hid (∀ c ∈ l, R32 c) := hrg
  clear C hr hg hcap hrg
  by_cases h : l.length ≤ 60
  · have h2 : l.length ≤ 121 := by omega
    have h3 : l.length ≤ 110 := by omega
    have HA : Hid (∀ w1, Below w.heap.size w w1 → Runes w1 A l → Calls Tryz.prog 10 #[.slice A l.length cap] w1 (TextPost (lall l).1 (lall l).2 w1)) := fun w1 hb1 h1 => HC.out.all A l cap w1 hb1 HRg.out h1 h2 HCap.out
    have HD : Hid (∀ w1, Runes w1 A l → Calls Tryz.prog 11 #[.slice A l.length cap] w1 (NamePost (lall l) w1)) := fun w1 h1 => all_any6 A l cap w1 h1 h3
    obtain ⟨n, s, hn⟩ : ∃ n s, lall l = (n, s) := ⟨_, _, rfl⟩
    rw [hn] at HA HD
    rcases lall_no l hn with rfl | ⟨rfl, rfl⟩ | ⟨rfl, rfl⟩
    · clear hn
      go_enter Tryz.func4, Tryz.ntmps4
      go_wp2_with (first
        | (go_at_call 6; refine (awake6 HC.out).mono ?_; rintro e w1 ⟨rfl, hb⟩; have HB := Lib.hid hb; clear hb)
        | (go_at_call 10; refine (HA.out _ HB.out (HR.out.below HB.out)).mono ?_; rintro e w2 ⟨rfl, hb⟩; obtain ⟨t, ht⟩ : ∃ t : ByteArray, (⟨s.toArray⟩ : ByteArray) = t := ⟨_, rfl⟩; (first | rw [ht] | (show _; simp only [ht])); have HT := Lib.hid ht; have HB := Lib.hid (bnext HB.out hb); clear hb ht)
        | (go_at_call 11; refine (HD.out _ (HR.out.below HB.out)).mono ?_; rintro e w3 ⟨rfl, hb⟩; (first | rw [HT.out] | (show _; simp only [HT.out])); have HB := Lib.hid (bnext HB.out hb); clear hb)
        | (go_at_call 9; refine (code_nil _).mono ?_; rintro e w' ⟨rfl, rfl⟩))
      go_ret
      exact ⟨rfl, HB.out⟩
    · clear hn
      go_enter Tryz.func4, Tryz.ntmps4
      go_wp2_with (first
        | (go_at_call 6; refine (awake6 HC.out).mono ?_; rintro e w1 ⟨rfl, hb⟩; have HB := Lib.hid hb; clear hb)
        | (go_at_call 10; refine (HA.out _ HB.out (HR.out.below HB.out)).mono ?_; rintro e w2 ⟨cs, u, x, rfl, hch, hb⟩; have HCh := Lib.hid hch; have HB := Lib.hid (bnext HB.out hb); clear hb hch)
        | (go_at_call 11; refine (HD.out _ (HR.out.below HB.out)).mono ?_; rintro e w3 ⟨rfl, hb⟩; have HCh := Lib.hid (HCh.out.below hb); have HB := Lib.hid (bnext HB.out hb); clear hb)
        | (go_at_call 9; refine (code_some cs 2 u x _ HCh.out (HG.out.below HB.out)).mono ?_; rintro e w4 ⟨rfl, hb⟩; have HB := Lib.hid (bnext HB.out hb); clear hb))
      go_ret
      exact ⟨rfl, HB.out⟩
    · clear hn
      go_enter Tryz.func4, Tryz.ntmps4
      go_wp2_with (first
        | (go_at_call 6; refine (awake6 HC.out).mono ?_; rintro e w1 ⟨rfl, hb⟩; have HB := Lib.hid hb; clear hb)
        | (go_at_call 10; refine (HA.out _ HB.out (HR.out.below HB.out)).mono ?_; rintro e w2 ⟨cs, u, x, rfl, hch, hb⟩; have HCh := Lib.hid hch; have HB := Lib.hid (bnext HB.out hb); clear hb hch)
        | (go_at_call 11; refine (HD.out _ (HR.out.below HB.out)).mono ?_; rintro e w3 ⟨rfl, hb⟩; have HCh := Lib.hid (HCh.out.below hb); have HB := Lib.hid (bnext HB.out hb); clear hb)
        | (go_at_call 9; refine (code_some cs 3 u x _ HCh.out (HG.out.below HB.out)).mono ?_; rintro e w4 ⟨rfl, hb⟩; have HB := Lib.hid (bnext HB.out hb); clear hb))
      go_ret
      exact ⟨rfl, HB.out⟩
  · go_enter Tryz.func4, Tryz.ntmps4
    go_wp2_with (go_at_call 6; refine (awake6 HC.out).mono ?_; rintro e w1 ⟨rfl, hb1⟩)
    go_ret
    exact ⟨rfl, hb1⟩
set_option maxHeartbeats 2000000 in
set_option maxRecDepth 100000 in
theorem law_lfolds (A : Option Addr) (l : List Int) (cap : Nat) (w : World) (hr : Runes w A l) (hs : l.length ≤ maxLen) (hcap : l.length ≤ cap ∧ (A = none → cap = 0)) (hrg : ∀ c ∈ l, -2147483648 ≤ c ∧ c < 2147483648) (hg : Ready w) (C : LabelC w) :
    Calls Tryz.prog 5 #[.slice A l.length cap] w (Yes w) := by
  unfold maxLen at hs
  have HC := Lib.hid C
  have HR := Lib.hid hr
  have HG := Lib.hid hg
  have HCap := Lib.hid hcap
  have HRg : Hid (∀ c ∈ l, R32 c) := hrg
  clear C hr hg hcap hrg
  by_cases h : l.length ≤ 60
  · have h2 : l.length ≤ 121 := by omega
    have h3 : l.length ≤ 900 := by omega
    have HA : Hid (∀ w1, Below w.heap.size w w1 → Runes w1 A l → Calls Tryz.prog 10 #[.slice A l.length cap] w1 (TextPost (lall l).1 (lall l).2 w1)) := fun w1 hb1 h1 => HC.out.all A l cap w1 hb1 HRg.out h1 h2 HCap.out
    cases hf : foldL l with
    | none =>
      rw [all_bad hf] at HA
      have HF := Lib.hid hf
      clear hf
      go_enter Tryz.func5, Tryz.ntmps5
      go_wp2_with (first
        | (go_at_call 6; refine (awake6 HC.out).mono ?_; rintro e w1 ⟨rfl, hb⟩; have HB := Lib.hid hb; clear hb)
        | (go_at_call 12; refine (refFold_any A l cap _ (HR.out.below HB.out) h3).mono ?_; rw [HF.out]; rintro e w2 ⟨rfl, hb⟩; have HB := Lib.hid (bnext HB.out hb); clear hb)
        | (go_at_call 10; refine (HA.out _ HB.out (HR.out.below HB.out)).mono ?_; rintro e w3 ⟨cs, u, x, rfl, hch, hb⟩; have HCh := Lib.hid hch; have HB := Lib.hid (bnext HB.out hb); clear hb hch)
        | (go_at_call 13; refine (is_any _ 2 2 u x _ HCh.out).mono ?_; rintro e w' ⟨rfl, rfl⟩))
      go_ret
      exact ⟨rfl, HB.out⟩
    | some f =>
      have hfl : f.length ≤ 121 := by have := fold_length hf; omega
      have HA2 : Hid (∀ A2 c2 w1, Below w.heap.size w w1 → Runes w1 A2 f → (f.length ≤ c2 ∧ (A2 = none → c2 = 0)) → Calls Tryz.prog 10 #[.slice A2 f.length c2] w1 (TextPost (lall l).1 (lall l).2 w1)) := by
        intro A2 c2 w1 hb1 h1 hc
        have := HC.out.all A2 f c2 w1 hb1 (fold_rng hf) h1 hfl hc
        rw [all_folds hf] at this
        exact this
      have HF := Lib.hid hf
      clear hf
      obtain ⟨n, s, hn⟩ : ∃ n s, lall l = (n, s) := ⟨_, _, rfl⟩
      rw [hn] at HA HA2
      have hns := lall_no l hn
      clear hn
      cases n with
      | zero =>
        obtain ⟨t, ht⟩ : ∃ t : ByteArray, (⟨s.toArray⟩ : ByteArray) = t := ⟨_, rfl⟩
        have HT := Lib.hid ht
        clear ht hns
        go_enter Tryz.func5, Tryz.ntmps5
        go_wp2_with (first
          | (go_at_call 6; refine (awake6 HC.out).mono ?_; rintro e w1 ⟨rfl, hb⟩; have HB := Lib.hid hb; clear hb)
          | (go_at_call 12; refine (refFold_any A l cap _ (HR.out.below HB.out) h3).mono ?_; rw [HF.out]; rintro e w2 ⟨v2, rfl, hm2⟩; obtain ⟨A2, c2, e2, hr2⟩ := hm2.runes; have HFi := Lib.hid (fit_of hm2 e2); subst e2; have HR2 := Lib.hid hr2; have HB := Lib.hid (bnext HB.out hm2.2); clear hm2 hr2)
          | (go_at_call 10; (with_reducible refine (HA.out _ HB.out (HR.out.below HB.out)).mono ?_); rintro e w3 ⟨rfl, hb⟩; (first | rw [HT.out] | (show _; simp only [HT.out])); have HR2 := Lib.hid (HR2.out.below hb); have HB := Lib.hid (bnext HB.out hb); clear hb)
          | (go_at_call 10; (with_reducible refine (HA2.out A2 c2 _ HB.out HR2.out HFi.out).mono ?_); rintro e w4 ⟨rfl, hb⟩; (first | rw [HT.out] | (show _; simp only [HT.out])); have HB := Lib.hid (bnext HB.out hb); clear hb)
          | (go_at_call 9; refine (code_nil _).mono ?_; rintro e w' ⟨rfl, rfl⟩))
        go_ret
        exact ⟨rfl, HB.out⟩
      | succ n =>
        have hn3 : n + 1 ≤ 3 := by rcases hns with h | ⟨h, _⟩ | ⟨h, _⟩ <;> omega
        clear hns
        go_enter Tryz.func5, Tryz.ntmps5
        go_wp2_with (first
          | (go_at_call 6; refine (awake6 HC.out).mono ?_; rintro e w1 ⟨rfl, hb⟩; have HB := Lib.hid hb; clear hb)
          | (go_at_call 12; refine (refFold_any A l cap _ (HR.out.below HB.out) h3).mono ?_; rw [HF.out]; rintro e w2 ⟨v2, rfl, hm2⟩; obtain ⟨A2, c2, e2, hr2⟩ := hm2.runes; have HFi := Lib.hid (fit_of hm2 e2); subst e2; have HR2 := Lib.hid hr2; have HB := Lib.hid (bnext HB.out hm2.2); clear hm2 hr2)
          | (go_at_call 10; (with_reducible refine (HA.out _ HB.out (HR.out.below HB.out)).mono ?_); rintro e w3 ⟨cs3, u3, x3, rfl, hch, hb⟩; have HC3 := Lib.hid hch; have HR2 := Lib.hid (HR2.out.below hb); have HB := Lib.hid (bnext HB.out hb); clear hb hch)
          | (go_at_call 10; (with_reducible refine (HA2.out A2 c2 _ HB.out HR2.out HFi.out).mono ?_); rintro e w4 ⟨cs4, u4, x4, rfl, hch, hb⟩; have HC4 := Lib.hid hch; have HC3 := Lib.hid (HC3.out.below hb); have HB := Lib.hid (bnext HB.out hb); clear hb hch)
          | (go_at_call 9; (with_reducible refine (code_some cs3 ((n + 1 : Nat) : Int) u3 x3 _ HC3.out (HG.out.below HB.out)).mono ?_); rintro e w5 ⟨rfl, hb⟩; have HC4 := Lib.hid (HC4.out.below hb); have HB := Lib.hid (bnext HB.out hb); clear hb)
          | (go_at_call 9; (with_reducible refine (code_some cs4 ((n + 1 : Nat) : Int) u4 x4 _ HC4.out (HG.out.below HB.out)).mono ?_); rintro e w6 ⟨rfl, hb⟩; have HB := Lib.hid (bnext HB.out hb); clear hb))
        go_ret
        exact ⟨rfl, HB.out⟩
  · go_enter Tryz.func5, Tryz.ntmps5
    go_wp2_with (go_at_call 6; refine (awake6 HC.out).mono ?_; rintro e w1 ⟨rfl, hb1⟩)
    go_ret
    exact ⟨rfl, hb1⟩
end Go.Proofs.YtfaieldafoeaiaaGreatDoor

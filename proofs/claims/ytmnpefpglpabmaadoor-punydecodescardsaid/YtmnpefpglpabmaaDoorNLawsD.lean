/-
  PunyEncodes, PunyDecodes, walked over the program's contracts: whatever the input, true.
-/
import Derived.Test.YtmnpefpglpabmaaDoorNAwake
import Derived.Test.YtmnpefpglpabmaaDoorNRefEnc2
import Derived.Test.YtmnpefpglpabmaaDoorFFind
namespace Go.Proofs.YtmnpefpglpabmaaDoor
open Go.RowKit

theorem same_yes (A B : Option Addr) (a b : List Int) (m n c d : Nat) (w : World) (hm : m = a.length) (hn : n = b.length) (ha : Runes w A a) (hb : Runes w B b) (hl : a.length ≤ 5000) (h : a = b) :
    Calls Tryd.prog 11 #[.slice A m c, .slice B n d] w (Yes w) := by
  subst hm; subst hn
  exact (same_any A B a b c d w ha hb hl).mono fun _ _ ⟨he, n, hw⟩ => ⟨by rw [he, show same a b = true by simp [same, h]], by rw [hw]; exact below_drewN (Below.refl _ _) _⟩

set_option maxHeartbeats 1000000 in
set_option maxRecDepth 100000 in
theorem law_encodes (C : PunyC) (A : Option Addr) (l : List Int) (cap : Nat) (w : World) (hr : Runes w A l) (hs : l.length ≤ maxLen) (hcap : l.length ≤ cap) (hrng : ∀ c ∈ l, -2147483648 ≤ c ∧ c < 2147483648) (hg : Ready w) :
    Calls Tryd.prog 3 #[.slice A l.length cap] w (Yes w) := by
  unfold maxLen at hs
  have HC := Lib.hid C
  have HR := Lib.hid hr
  have HG := Lib.hid hg
  clear C hr hg
  by_cases h : l.length ≤ 60
  · have h2 : l.length ≤ 100 := by omega
    by_cases hsc : ∀ c ∈ l, scal c = true
    · obtain ⟨he, hok⟩ := ints_of hsc
      obtain ⟨ln, hln⟩ : ∃ ln, l.map Int.toNat = ln := ⟨_, rfl⟩
      rw [hln] at he hok
      clear hln
      subst he
      rw [ints_length] at h h2 hcap hs ⊢
      have HOk := Lib.hid hok
      obtain ⟨t, ht⟩ : ∃ t : ByteArray, (⟨(penc ln).toArray⟩ : ByteArray) = t := ⟨_, rfl⟩
      have HT := Lib.hid ht
      clear hok hsc ht
      go_enter Tryd.func3, Tryd.ntmps3
      go_wp2_with (first
        | (go_at_call 5; refine (awake_any HC.out _).mono ?_; rintro e w1 ⟨rfl, hb⟩; have HB := Lib.hid hb; clear hb)
        | (go_at_call 6; refine (HC.out.encOk A ln cap _ (HR.out.below HB.out) HOk.out h2 hcap).mono ?_; rintro e w2 ⟨rfl, hb⟩; rw [HT.out]; have HB := Lib.hid (bnext HB.out hb); clear hb)
        | (go_at_call 7; refine (refEnc_good A ln cap _ (HR.out.below HB.out) h HOk.out).mono ?_; rintro e w3 ⟨rfl, hb⟩; rw [HT.out]; have HB := Lib.hid (bnext HB.out hb); clear hb)
        | (go_at_call 8; refine (code_nil _).mono ?_; rintro e w' ⟨rfl, rfl⟩))
      go_ret
      exact ⟨rfl, HB.out⟩
    · have HBad := Lib.hid hsc
      have HRng := Lib.hid hrng
      clear hsc hrng
      go_enter Tryd.func3, Tryd.ntmps3
      go_wp2_with (first
        | (go_at_call 5; refine (awake_any HC.out _).mono ?_; rintro e w1 ⟨rfl, hb⟩; have HB := Lib.hid hb; clear hb)
        | (go_at_call 6; refine (HC.out.encBad A l cap _ (HR.out.below HB.out) HRng.out HBad.out h2 hcap).mono ?_; rintro e w2 ⟨cs, u, x, rfl, hch, hb⟩; have HCh := Lib.hid hch; have HB := Lib.hid (bnext HB.out hb); clear hch hb)
        | (go_at_call 7; refine (refEnc_bad A l cap _ (HR.out.below HB.out) h HBad.out).mono ?_; rintro e w3 ⟨rfl, hb⟩; have HCh := Lib.hid (HCh.out.below hb); have HB := Lib.hid (bnext HB.out hb); clear hb)
        | (go_at_call 8; refine (code_some cs 2 u x _ (by first | exact HCh.out | exact Chain.below (by assumption) HCh.out) (HG.out.below HB.out)).mono ?_; rintro e w4 ⟨rfl, hb⟩; have HB := Lib.hid (bnext HB.out hb); clear hb))
      go_ret
      exact ⟨rfl, HB.out⟩
  · go_enter Tryd.func3, Tryd.ntmps3
    go_wp2_with (go_at_call 5; refine (awake_any HC.out _).mono ?_; rintro e w1 ⟨rfl, hb1⟩)
    go_ret
    exact ⟨rfl, hb1⟩

set_option maxHeartbeats 1000000 in
set_option maxRecDepth 100000 in
theorem law_decodes (C : PunyC) (s : ByteArray) (w : World) (hs : s.size ≤ maxLen) (hg : Ready w) :
    Calls Tryd.prog 4 #[.string s] w (Yes w) := by
  unfold maxLen at hs
  have HC := Lib.hid C
  have HG := Lib.hid hg
  clear C hg
  by_cases h : s.size ≤ 80
  · have h2 : s.size ≤ 800 := by omega
    have h3 : s.size ≤ 900 := by omega
    cases hp : pdec s.data.toList with
    | none =>
      have HP := Lib.hid hp
      clear hp
      go_enter Tryd.func4, Tryd.ntmps4
      go_wp2_with (first
        | (go_at_call 5; refine (awake_any HC.out _).mono ?_; rintro e w1 ⟨rfl, hb⟩; have HB := Lib.hid hb; clear hb)
        | (go_at_call 9; refine (HC.out.dec _ _ h2).mono ?_; intro e w2 hd; rw [HP.out] at hd; obtain ⟨cs, u, x, rfl, hch, hb⟩ := hd; have HCh := Lib.hid hch; have HB := Lib.hid (bnext HB.out hb); clear hch hb)
        | (go_at_call 10; refine (refDec_any _ _ h3).mono ?_; intro e w3 hd; rw [HP.out] at hd; obtain ⟨rfl, hb⟩ := hd; have HCh := Lib.hid (HCh.out.below hb); have HB := Lib.hid (bnext HB.out hb); clear hb)
        | (go_at_call 11; refine (same_yes none none [] [] 0 0 0 0 _ rfl rfl Runes.nil_ Runes.nil_ (by simp) rfl).mono ?_; rintro e w4 ⟨rfl, hb⟩; have HCh := Lib.hid (HCh.out.below hb); have HB := Lib.hid (bnext HB.out hb); clear hb)
        | (go_at_call 8; refine (code_some cs 2 u x _ HCh.out (HG.out.below HB.out)).mono ?_; rintro e w5 ⟨rfl, hb⟩; have HB := Lib.hid (bnext HB.out hb); clear hb))
      go_ret
      exact ⟨rfl, HB.out⟩
    | some l =>
      have HP := Lib.hid hp
      have hlen := pdec_length hp
      have hll : l.length ≤ 100 := by simp at hlen; omega
      clear hp hlen
      go_enter Tryd.func4, Tryd.ntmps4
      go_wp2_with (first
        | (go_at_call 5; refine (awake_any HC.out _).mono ?_; rintro e w1 ⟨rfl, hb⟩; have HB := Lib.hid hb; clear hb)
        | (go_at_call 9; refine (HC.out.dec _ _ h2).mono ?_; intro e w2 hd; rw [HP.out] at hd; obtain ⟨A, c, rfl, hr, hcap, hb⟩ := hd; have HR := Lib.hid hr; have HB := Lib.hid (bnext HB.out hb); clear hr hb hcap)
        | (go_at_call 10; refine (refDec_any _ _ h3).mono ?_; intro e w3 hd; rw [HP.out] at hd; obtain ⟨v, rfl, hm⟩ := hd; obtain ⟨A', c', e', hr'⟩ := hm.runes; rw [ints_length] at e'; subst e'; have HR := Lib.hid (HR.out.below hm.2); have HR' := Lib.hid hr'; have HB := Lib.hid (bnext HB.out hm.2); clear hm hr')
        | (go_at_call 11; refine (same_yes A A' (ints l) (ints l) l.length l.length c c' _ (ints_length l).symm (ints_length l).symm HR.out HR'.out (by rw [ints_length]; omega) rfl).mono ?_; rintro e w4 ⟨rfl, hb⟩; have HB := Lib.hid (bnext HB.out hb); clear hb)
        | (go_at_call 8; refine (code_nil _).mono ?_; rintro e w' ⟨rfl, rfl⟩))
      go_ret
      exact ⟨rfl, HB.out⟩
  · go_enter Tryd.func4, Tryd.ntmps4
    go_wp2_with (go_at_call 5; refine (awake_any HC.out _).mono ?_; rintro e w1 ⟨rfl, hb1⟩)
    go_ret
    exact ⟨rfl, hb1⟩
end Go.Proofs.YtmnpefpglpabmaaDoor

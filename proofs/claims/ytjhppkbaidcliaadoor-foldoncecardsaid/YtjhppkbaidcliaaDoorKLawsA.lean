/-
  FoldMaps, FoldOnce, walked over the program's contracts: whatever the input, true.
-/
import Derived.Test.YtjhppkbaidcliaaDoorKCon
namespace Go.Proofs.YtjhppkbaidcliaaDoor
open Go.RowKit

set_option maxHeartbeats 1000000 in
set_option maxRecDepth 100000 in
theorem law_maps (c : Int) (w : World) (h0 : -2147483648 ≤ c) (h1 : c ≤ 2147483647) (C : FoldC w) :
    Calls Tryd.prog 3 #[.int .i32 c] w (Yes w) := by
  have HC := Lib.hid C
  have HRg : Hid (R32 c) := ⟨h0, by omega⟩
  clear C
  by_cases hb : Barred c
  · have HBd := Lib.hid hb
    clear hb
    go_enter Tryd.func3, Tryd.ntmps3
    go_wp2_with (first
      | (go_at_call 8; refine (awake_any HC.out).mono ?_; rintro e w1 ⟨rfl, hb⟩; have HB := Lib.hid hb; clear hb)
      | (go_at_call 9; refine (HC.out.mapBad _ _ HB.out HRg.out HBd.out).mono ?_; rintro e w2 ⟨rfl, hb⟩; have HB := Lib.hid (bnext HB.out hb); clear hb)
      | (go_at_call 10; refine (map_bad _ _ HBd.out).mono ?_; rintro e w3 ⟨rfl, hb⟩; have HB := Lib.hid (bnext HB.out hb); clear hb)
      | (go_at_call 11; refine (same_yes none none [] [] 0 0 0 0 _ rfl rfl Runes.nil_ Runes.nil_ (by simp) rfl).mono ?_; rintro e w4 ⟨rfl, hb⟩; have HB := Lib.hid (bnext HB.out hb); clear hb))
    go_ret
    exact ⟨rfl, HB.out⟩
  · have HBd := Lib.hid hb
    have hml := mapTo_length c
    clear hb
    obtain ⟨m, hm⟩ : ∃ m, mapTo c = m := ⟨_, rfl⟩
    have HMp := Lib.hid hm
    rw [hm] at hml
    clear hm
    go_enter Tryd.func3, Tryd.ntmps3
    go_wp2_with (first
      | (go_at_call 8; refine (awake_any HC.out).mono ?_; rintro e w1 ⟨rfl, hb⟩; have HB := Lib.hid hb; clear hb)
      | (go_at_call 9; refine (HC.out.mapGood _ _ HB.out HRg.out HBd.out).mono ?_; rw [HMp.out]; rintro e w2 ⟨A, c2, rfl, hr, hb⟩; have HR := Lib.hid hr; have HB := Lib.hid (bnext HB.out hb); clear hb hr)
      | (go_at_call 10; refine (map_good _ _ HBd.out).mono ?_; rw [HMp.out]; rintro e w3 ⟨v, rfl, hm⟩; obtain ⟨A', c', e', hr'⟩ := hm.runes; subst e'; have HR := Lib.hid (HR.out.below hm.2); have HR' := Lib.hid hr'; have HB := Lib.hid (bnext HB.out hm.2); clear hm hr')
      | (go_at_call 11; refine (same_yes A A' m m m.length m.length c2 c' _ rfl rfl HR.out HR'.out (by omega) rfl).mono ?_; rintro e w4 ⟨rfl, hb⟩; have HB := Lib.hid (bnext HB.out hb); clear hb))
    go_ret
    exact ⟨rfl, HB.out⟩

set_option maxHeartbeats 1000000 in
set_option maxRecDepth 100000 in
theorem law_once (A : Option Addr) (l : List Int) (cap : Nat) (w : World) (hr : Runes w A l) (hs : l.length ≤ maxLen) (hcap : l.length ≤ cap) (hrg : ∀ c ∈ l, -2147483648 ≤ c ∧ c < 2147483648) (C : FoldC w) :
    Calls Tryd.prog 5 #[.slice A l.length cap] w (Yes w) := by
  unfold maxLen at hs
  have HC := Lib.hid C
  have HR := Lib.hid hr
  have HRg : Hid (∀ c ∈ l, R32 c) := hrg
  clear C hr hrg
  by_cases h : l.length ≤ 100
  · have h2 : l.length ≤ 500 := by omega
    cases hf : foldL l with
    | none =>
      have HF := Lib.hid hf
      clear hf
      go_enter Tryd.func5, Tryd.ntmps5
      go_wp2_with (first
        | (go_at_call 8; refine (awake_any HC.out).mono ?_; rintro e w1 ⟨rfl, hb⟩; have HB := Lib.hid hb; clear hb)
        | (go_at_call 12; refine (HC.out.fold A l cap _ HB.out HRg.out (HR.out.below HB.out) h2 hcap).mono ?_; rw [HF.out]; rintro e w2 ⟨cs, u, x, rfl, _, hb⟩; have HB := Lib.hid (bnext HB.out hb); clear hb))
      go_ret
      exact ⟨rfl, HB.out⟩
    | some a =>
      have HF := Lib.hid hf
      have ho := fold_once hf
      have HF2 := Lib.hid ho.1
      have HK := Lib.hid ho.2
      have HRa := Lib.hid (fold_rng hf)
      have hal : a.length ≤ 200 := by have := fold_length hf; omega
      have hal2 : a.length ≤ 500 := by omega
      have hal3 : a.length ≤ 1000 := by omega
      clear hf ho
      go_enter Tryd.func5, Tryd.ntmps5
      go_wp2_with (first
        | (go_at_call 8; refine (awake_any HC.out).mono ?_; rintro e w1 ⟨rfl, hb⟩; have HB := Lib.hid hb; clear hb)
        | (go_at_call 12; (with_reducible refine (HC.out.fold A l cap _ HB.out HRg.out (HR.out.below HB.out) h2 hcap).mono ?_); rw [HF.out]; rintro e w2 ⟨A1, c1, rfl, hr1, hcp, hb⟩; have HR1 := Lib.hid hr1; have HCp := Lib.hid hcp; have HB := Lib.hid (bnext HB.out hb); clear hb hr1 hcp)
        | (go_at_call 12; (with_reducible refine (HC.out.fold A1 a c1 _ HB.out HRa.out HR1.out hal2 HCp.out.1).mono ?_); rw [HF2.out]; rintro e w3 ⟨A2, c2, rfl, hr2, _, hb⟩; have HR2 := Lib.hid hr2; have HR1 := Lib.hid (HR1.out.below hb); have HB := Lib.hid (bnext HB.out hb); clear hb hr2)
        | (go_at_call 11; (with_reducible refine (same_yes A1 A2 a a a.length a.length c1 c2 _ rfl rfl HR1.out HR2.out (by omega) rfl).mono ?_); rintro e w4 ⟨rfl, hb⟩; have HR1 := Lib.hid (HR1.out.below hb); have HB := Lib.hid (bnext HB.out hb); clear hb)
        | (go_at_call 15; (with_reducible refine (HC.out.comp A1 a c1 _ HB.out HR1.out hal3 HCp.out.1).mono ?_); rw [HK.out]; rintro e w5 ⟨A3, c3, rfl, hr3, _, hb⟩; have HR3 := Lib.hid hr3; have HR1 := Lib.hid (HR1.out.below hb); have HB := Lib.hid (bnext HB.out hb); clear hb hr3)
        | (go_at_call 11; (with_reducible refine (same_yes A3 A1 a a a.length a.length c3 c1 _ rfl rfl HR3.out HR1.out (by omega) rfl).mono ?_); rintro e w6 ⟨rfl, hb⟩; have HB := Lib.hid (bnext HB.out hb); clear hb))
      go_ret
      exact ⟨rfl, HB.out⟩
  · go_enter Tryd.func5, Tryd.ntmps5
    go_wp2_with (go_at_call 8; refine (awake_any HC.out).mono ?_; rintro e w1 ⟨rfl, hb1⟩)
    go_ret
    exact ⟨rfl, hb1⟩
end Go.Proofs.YtjhppkbaidcliaaDoor

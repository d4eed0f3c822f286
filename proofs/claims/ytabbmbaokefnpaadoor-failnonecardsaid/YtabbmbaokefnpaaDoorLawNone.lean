/-
  The law FailNone, walked.
-/
import Derived.Test.YtabbmbaokefnpaaDoorLawTells
namespace Go.Proofs.YtabbmbaokefnpaaDoor
open Go.RowKit

theorem strs_one (w : World) (a : ByteArray) : Strs (w.alloc (.cells #[.string a] 9)) (some ⟨w.heap.size, 0, none⟩) [a] := by
  intro i s hs
  refine ⟨w.heap.size, 0, rfl, by simp, ?_⟩
  match i, hs with
  | 0, hs => simp at hs; subst hs; simp

set_option maxHeartbeats 4000000 in
set_option maxRecDepth 100000 in
theorem law_none (call : ByteArray) (A : Option Addr) (ss : List ByteArray) (c : Nat) (w : World) (h : Strs w A ss) (hl : ss.length ≤ maxLen) (hg : Ready w) :
    Calls Tryd.prog 6 #[.string call, .slice A ss.length c] w (Returns (.bool true) w) := by
  have HG := Lib.hid hg
  have HS := Lib.hid h
  clear hg h
  go_enter Tryd.func6, Tryd.ntmps6
  go_wp2_with fail
  refine (awake_any w HG.out).mono ?_
  rintro e w1 ⟨rfl, k1⟩
  have HS1 := Lib.hid (HS.out.below k1)
  have HG1 := Lib.hid (HG.out.below k1)
  by_cases h60 : 60 < call.size
  · go_wp2
    go_ret
    exact ⟨rfl, k1⟩
  · go_wp2_with fail
    refine (few_any A ss c _ HS1.out hl).mono ?_
    rintro e w' ⟨rfl, rfl⟩
    by_cases hf : few ss = true
    · rw [hf]
      clear hf
      go_wp2_with fail
      refine (wrap_nil call _).mono ?_
      rintro e w' ⟨rfl, rfl⟩
      have hb2 : Below w1.heap.size w1 (w1.alloc (.cells #[.string call, .nilIface] 45)) := (Below.refl _ _).alloc (Nat.le_refl _) _
      have HG2 := Lib.hid (HG1.out.below hb2)
      have kk2 := k1.trans (hb2.mono k1.size)
      have hch : Chain (w1.alloc (.cells #[.string call, .nilIface] 45)) [call] none (.iface 40 (.pointer (some ⟨w1.heap.size, 0, none⟩))) := Chain.lay (cs := []) (o := none) (v := .nilIface) call rfl
      have q1 : (w1.alloc (.cells #[.string call, .nilIface] 45)).cell? ⟨w1.heap.size, 1, none⟩ = some .nilIface := by simp
      have HC2 := Lib.hid hch
      clear hch
      go_wp2_with fail
      refine (all_ok A _ c _).mono ?_
      rintro e w' ⟨rfl, rfl⟩
      go_wp2_with fail
      refine (calls_any [] none .nilIface _ rfl HG2.out (by simp) (.inl rfl)).mono ?_
      rintro e w3 ⟨v3, rfl, hm3⟩
      obtain ⟨A3, c3, rfl, _⟩ := hm3.strs
      have k3 := hm3.2
      clear hm3
      have HG3 := Lib.hid (HG2.out.below k3)
      have HC3 := Lib.hid (HC2.out.below k3)
      have kk3 := kk2.trans (k3.mono kk2.size)
      have q3 := (k3.cell (p := ⟨w1.heap.size, 1, none⟩) (by simp)).trans q1
      have hl3 : w1.heap.size < w3.heap.size := by have := k3.size; simp at this; omega
      go_wp2_with fail
      refine (fail_error_nil _).mono ?_
      rintro e w4 ⟨rfl, k4⟩
      have HG4 := Lib.hid (HG3.out.below k4)
      have HC4 := Lib.hid (HC3.out.below k4)
      have kk4 := kk3.trans (k4.mono kk3.size)
      have q4 := (k4.cell (p := ⟨w1.heap.size, 1, none⟩) hl3).trans q3
      have hl4 : w1.heap.size < w4.heap.size := Nat.lt_of_lt_of_le hl3 k4.size
      go_wp2_with fail
      refine (unwrap_nil _).mono ?_
      rintro e w' ⟨rfl, rfl⟩
      go_wp2_with fail
      refine (fail_error_bare w1.heap.size _ hl4 q4).mono ?_
      rintro e w5 ⟨rfl, k5⟩
      have HG5 := Lib.hid (HG4.out.below k5)
      have HC5 := Lib.hid (HC4.out.below k5)
      have kk5 := kk4.trans (k5.mono kk4.size)
      have q5 := (k5.cell (p := ⟨w1.heap.size, 1, none⟩) hl4).trans q4
      go_wp2_with fail
      refine (unwrap_at w1.heap.size _ _ q5).mono ?_
      rintro e w' ⟨rfl, rfl⟩
      go_wp2_with fail
      refine (code_none [call] _ _ _ HC5.out HG5.out).mono ?_
      rintro e w6 ⟨rfl, k6⟩
      have HG6 := Lib.hid (HG5.out.below k6)
      have HC6 := Lib.hid (HC5.out.below k6)
      have kk6 := kk5.trans (k6.mono kk5.size)
      go_wp2_with fail
      refine (calls_any [call] none _ _ HC6.out HG6.out (by simp) (.inr ⟨_, _, rfl⟩)).mono ?_
      rintro e w7 ⟨v7, rfl, hm7⟩
      obtain ⟨A7, c7, rfl, hS7⟩ := hm7.strs
      have k7 := hm7.2
      have HM7 := Lib.hid (hS7.below ((Below.refl _ _).alloc (Nat.le_refl _) (.cells #[.string call] 9)))
      have kk7 := kk6.trans (k7.mono kk6.size)
      clear hm7 hS7
      go_wp2_with fail
      refine (same_any A7 (some ⟨w7.heap.size, 0, none⟩) [call] [call] c7 1 _ HM7.out (strs_one w7 call) (by simp [maxLen])).mono ?_
      rintro e w8 ⟨rfl, nn, rfl⟩
      rw [same_self]
      go_wp2
      go_ret
      exact ⟨rfl, (kk7.alloc kk7.size _).trans ((below_draws _ nn).mono (by have := kk7.size; simp; omega))⟩
    · have hf' : few ss = false := by simpa using hf
      rw [hf']
      clear hf hf'
      go_wp2
      go_ret
      exact ⟨rfl, k1⟩
end Go.Proofs.YtabbmbaokefnpaaDoor

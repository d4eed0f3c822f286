/-
  The law FailTells, walked.
-/
import Derived.Test.YtabbmbaokefnpaaDoorLawIs
namespace Go.Proofs.YtabbmbaokefnpaaDoor
open Go.RowKit

theorem same_self (a : List ByteArray) : same a a = true := by simp [same]

theorem below_draws (w : World) (n : Nat) : Below w.heap.size w (w.drewN n) := ⟨rfl, rfl, rfl, Nat.le_refl _, fun _ _ => rfl⟩

set_option maxHeartbeats 4000000 in
set_option maxRecDepth 100000 in
theorem law_tells (A : Option Addr) (ss : List ByteArray) (c : Nat) (n : Int) (w : World) (h : Strs w A ss) (hl : ss.length ≤ maxLen) (hn0 : 0 ≤ n) (hn1 : n ≤ 255) (hg : Ready w) :
    Calls Tryd.prog 3 #[.slice A ss.length c, .int .u8 n] w (Returns (.bool true) w) := by
  have HG := Lib.hid hg
  have HS := Lib.hid h
  clear hg h
  obtain ⟨k, hk⟩ : ∃ k, 1 + n % 10 = k := ⟨_, rfl⟩
  have hk0 : (k == 0) = false := by rw [beq_eq_false_iff_ne]; omega
  have hk1 : 1 ≤ k := by omega
  have hk2 : k ≤ 10 := by omega
  have HK := Lib.hid hk
  clear hk
  have mE := methodError
  have mR := Tryd.errnoError
  go_enter Tryd.func3, Tryd.ntmps3
  go_wp2_with fail
  refine (awake_any w HG.out).mono ?_
  rintro e w1 ⟨rfl, k1⟩
  have HS1 := Lib.hid (HS.out.below k1)
  have HG1 := Lib.hid (HG.out.below k1)
  go_wp2_with fail
  refine (few_any A ss c _ HS1.out hl).mono ?_
  rintro e w' ⟨rfl, rfl⟩
  by_cases hf : few ss = true
  · rw [hf]
    have hlen := few_len hf
    have HZ := Lib.hid (few_size hf)
    clear hf
    go_wp2_with fail
    refine (number_is n k _ hn0 hn1 HK).mono ?_
    rintro e w' ⟨rfl, rfl⟩
    go_wp2_with fail
    refine (all_any A ss c k _ hk0 HS1.out hl).mono ?_
    rintro e w2 ⟨u, x, rfl, hch, k2⟩
    have HS2 := Lib.hid (HS1.out.below k2)
    have HG2 := Lib.hid (HG1.out.below k2)
    have kk2 := k1.trans (k2.mono k1.size)
    have hrl : ss.reverse.length ≤ 20 := by simpa using hlen
    have HZr : Hid (∀ s ∈ ss.reverse, s.size ≤ 60) := fun s hs => HZ.out s (List.mem_reverse.1 hs)
    have hcases : (∃ c0 cs0, ss.reverse = c0 :: cs0) ∨ ss.reverse = [] := by
      cases ss.reverse with
      | nil => exact .inr rfl
      | cons c0 cs0 => exact .inl ⟨c0, cs0, rfl⟩
    rcases hcases with ⟨c0, cs0, hr⟩ | hr
    · rw [hr] at hch hrl HZr
      obtain ⟨b, rfl, rfl⟩ := hch.cons_form
      have HC := Lib.hid hch
      have HR := Lib.hid hr
      clear hch hr
      have hrl' : cs0.length ≤ 20 := by simp at hrl; omega
      go_wp2_with fail
      refine (fail_error c0 cs0 b k _ hk1 hk2 hrl' HZr.out HC.out).mono ?_
      rintro e w3 ⟨rfl, k3⟩
      have HC3 := Lib.hid (HC.out.below k3)
      have HS3 := Lib.hid (HS2.out.below k3)
      have HG3 := Lib.hid (HG2.out.below k3)
      have kk3 := kk2.trans (k3.mono kk2.size)
      go_wp2_with fail
      refine (errno_error k _ hk1 hk2).mono ?_
      rintro e w4 ⟨rfl, k4⟩
      have HC4 := Lib.hid (HC3.out.below k4)
      have HS4 := Lib.hid (HS3.out.below k4)
      have HG4 := Lib.hid (HG3.out.below k4)
      have kk4 := kk3.trans (k4.mono kk3.size)
      go_wp2_with fail
      refine (text_any A ss c (word k) _ HS4.out (by omega) HZ.out (by have := word_size k; omega)).mono ?_
      rintro e w' ⟨rfl, rfl⟩
      rw [HR.out]
      go_wp2_with fail
      refine (code_some _ k _ _ _ HC4.out HG4.out).mono ?_
      rintro e w5 ⟨rfl, k5⟩
      have HC5 := Lib.hid (HC4.out.below k5)
      have HS5 := Lib.hid (HS4.out.below k5)
      have HG5 := Lib.hid (HG4.out.below k5)
      have kk5 := kk4.trans (k5.mono kk4.size)
      go_wp2_with fail
      refine (calls_any _ (some k) _ _ HC5.out HG5.out (by simp at hrl ⊢; omega) (.inr ⟨_, _, rfl⟩)).mono ?_
      rintro e w6 ⟨v6, rfl, hm6⟩
      obtain ⟨A6, c6, rfl, hS6⟩ := hm6.strs
      have k6 := hm6.2
      have kk6 := kk5.trans (k6.mono kk5.size)
      have HS6 := Lib.hid (HS5.out.below k6)
      have HM6 := Lib.hid hS6
      clear hm6 hS6
      go_wp2_with fail
      refine (turned_any A ss c _ HS6.out (by omega)).mono ?_
      rintro e w7 ⟨v7, rfl, hm7⟩
      obtain ⟨A7, c7, rfl, hS7⟩ := hm7.strs
      have k7 := hm7.2
      have kk7 := kk6.trans (k7.mono kk6.size)
      have HM6' := Lib.hid (HM6.out.below k7)
      rw [HR.out] at hS7 ⊢
      have HM7 := Lib.hid hS7
      clear hm7 hS7
      go_wp2_with fail
      refine (same_any A6 A7 (c0 :: cs0) (c0 :: cs0) c6 c7 _ HM6'.out HM7.out (by simp only [maxLen]; simp at hrl ⊢; omega)).mono ?_
      rintro e w8 ⟨rfl, nn, rfl⟩
      rw [same_self]
      go_wp2
      go_ret
      exact ⟨rfl, kk7.trans ((below_draws w7 nn).mono kk7.size)⟩
    · rw [hr] at hch
      have hss : ss = [] := by simpa using hr
      subst hss
      obtain ⟨rfl, rfl⟩ : u = 25 ∧ x = .int .i64 k := by have : Value.iface u x = .iface 25 (.int .i64 k) := hch; injection this with a b; exact ⟨a, b⟩
      have HC := Lib.hid hch
      clear hch hr
      go_wp2_with fail
      refine (errno_error k _ hk1 hk2).mono ?_
      rintro e w3 ⟨rfl, k3⟩
      have HC3 := Lib.hid (HC.out.below k3)
      have HS3 := Lib.hid (HS2.out.below k3)
      have HG3 := Lib.hid (HG2.out.below k3)
      have kk3 := kk2.trans (k3.mono kk2.size)
      go_wp2_with fail
      refine (errno_error k _ hk1 hk2).mono ?_
      rintro e w4 ⟨rfl, k4⟩
      have HC4 := Lib.hid (HC3.out.below k4)
      have HS4 := Lib.hid (HS3.out.below k4)
      have HG4 := Lib.hid (HG3.out.below k4)
      have kk4 := kk3.trans (k4.mono kk3.size)
      go_wp2_with fail
      refine (text_any A [] c (word k) _ HS4.out (by simp) HZ.out (by have := word_size k; omega)).mono ?_
      rintro e w' ⟨rfl, rfl⟩
      go_wp2_with fail
      refine (code_some _ k _ _ _ HC4.out HG4.out).mono ?_
      rintro e w5 ⟨rfl, k5⟩
      have HC5 := Lib.hid (HC4.out.below k5)
      have HS5 := Lib.hid (HS4.out.below k5)
      have HG5 := Lib.hid (HG4.out.below k5)
      have kk5 := kk4.trans (k5.mono kk4.size)
      go_wp2_with fail
      refine (calls_any [] (some k) _ _ HC5.out HG5.out (by simp) (.inr ⟨_, _, rfl⟩)).mono ?_
      rintro e w6 ⟨v6, rfl, hm6⟩
      obtain ⟨A6, c6, rfl, hS6⟩ := hm6.strs
      have k6 := hm6.2
      have kk6 := kk5.trans (k6.mono kk5.size)
      have HS6 := Lib.hid (HS5.out.below k6)
      have HM6 := Lib.hid hS6
      clear hm6 hS6
      go_wp2_with fail
      refine (turned_any A [] c _ HS6.out (by simp)).mono ?_
      rintro e w7 ⟨v7, rfl, hm7⟩
      obtain ⟨A7, c7, rfl, hS7⟩ := hm7.strs
      have k7 := hm7.2
      have kk7 := kk6.trans (k7.mono kk6.size)
      have HM6' := Lib.hid (HM6.out.below k7)
      have HM7 := Lib.hid hS7
      clear hm7 hS7
      go_wp2_with fail
      refine (same_any A6 A7 [] [] c6 c7 _ HM6'.out HM7.out (by simp [maxLen])).mono ?_
      rintro e w8 ⟨rfl, nn, rfl⟩
      rw [same_self]
      go_wp2
      go_ret
      exact ⟨rfl, kk7.trans ((below_draws w7 nn).mono kk7.size)⟩
  · have hf' : few ss = false := by simpa using hf
    rw [hf']
    clear hf hf'
    go_wp2
    go_ret
    exact ⟨rfl, k1⟩
end Go.Proofs.YtabbmbaokefnpaaDoor

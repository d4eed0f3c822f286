/-
  The law FailApart, walked.
-/
import Derived.Test.YtabbmbaokefnpaaDoorLawTells
namespace Go.Proofs.YtabbmbaokefnpaaDoor
open Go.RowKit

theorem same_reverse (a b : List ByteArray) : same a.reverse b.reverse = same a b := by simp [same]

theorem list_cases (r : List ByteArray) : (∃ c0 cs0, r = c0 :: cs0) ∨ r = [] := by
  cases r with
  | nil => exact .inr rfl
  | cons c0 cs0 => exact .inl ⟨c0, cs0, rfl⟩
theorem same_false_reverse {a b ra rb : List ByteArray} (ha : a.reverse = ra) (hb : b.reverse = rb) (h : same a b = false) : same ra rb = false := by
  rw [← ha, ← hb, same_reverse]; exact h

set_option maxHeartbeats 4000000 in
set_option maxRecDepth 100000 in
theorem law_apart (A : Option Addr) (la : List ByteArray) (c : Nat) (B : Option Addr) (bs : List ByteArray) (d : Nat) (n : Int) (w : World) (h : Strs w A la) (hl : la.length ≤ maxLen) (h' : Strs w B bs) (hl' : bs.length ≤ maxLen) (hn0 : 0 ≤ n) (hn1 : n ≤ 255) (hg : Ready w) :
    Calls Tryd.prog 7 #[.slice A la.length c, .slice B bs.length d, .int .u8 n] w (Returns (.bool true) w) := by
  have HG := Lib.hid hg
  have HA := Lib.hid h
  have HB := Lib.hid h'
  clear hg h h'
  obtain ⟨k, hk⟩ : ∃ k, 1 + n % 10 = k := ⟨_, rfl⟩
  have hk0 : (k == 0) = false := by rw [beq_eq_false_iff_ne]; omega
  have hk1 : 1 ≤ k := by omega
  have hk2 : k ≤ 10 := by omega
  have HK := Lib.hid hk
  clear hk
  have mE := methodError
  have mR := Tryd.errnoError
  go_enter Tryd.func7, Tryd.ntmps7
  go_wp2_with fail
  refine (awake_any w HG.out).mono ?_
  rintro e w1 ⟨rfl, k1⟩
  have HA1 := Lib.hid (HA.out.below k1)
  have HB1 := Lib.hid (HB.out.below k1)
  have HG1 := Lib.hid (HG.out.below k1)
  go_wp2_with fail
  refine (few_any A la c _ HA1.out hl).mono ?_
  rintro e w' ⟨rfl, rfl⟩
  by_cases hf : few la = true
  case neg =>
    have hf' : few la = false := by simpa using hf
    rw [hf']
    clear hf hf'
    go_wp2
    go_ret
    exact ⟨rfl, k1⟩
  rw [hf]
  have hlen := few_len hf
  have HZ := Lib.hid (few_size hf)
  clear hf
  go_wp2_with fail
  refine (few_any B bs d _ HB1.out hl').mono ?_
  rintro e w' ⟨rfl, rfl⟩
  by_cases hf : few bs = true
  case neg =>
    have hf' : few bs = false := by simpa using hf
    rw [hf']
    clear hf hf'
    go_wp2
    go_ret
    exact ⟨rfl, k1⟩
  rw [hf]
  have hlen' := few_len hf
  have HZ' := Lib.hid (few_size hf)
  clear hf
  go_wp2_with fail
  refine (number_is n k _ hn0 hn1 HK).mono ?_
  rintro e w' ⟨rfl, rfl⟩
  go_wp2_with fail
  refine (all_any A la c k _ hk0 HA1.out hl).mono ?_
  rintro e w2 ⟨u, x, rfl, hch, k2⟩
  obtain ⟨ra, hra⟩ : ∃ r, la.reverse = r := ⟨_, rfl⟩
  have hral : ra.length ≤ 20 := by rw [← hra]; simpa using hlen
  rw [hra] at hch
  have HRA := Lib.hid hra
  have HX := Lib.hid hch
  clear hch hra
  have HA2 := Lib.hid (HA1.out.below k2)
  have HB2 := Lib.hid (HB1.out.below k2)
  have HG2 := Lib.hid (HG1.out.below k2)
  have kk2 := k1.trans (k2.mono k1.size)
  go_wp2_with fail
  refine (number_is n k _ hn0 hn1 HK).mono ?_
  rintro e w' ⟨rfl, rfl⟩
  go_wp2_with fail
  refine (all_any B bs d k _ hk0 HB2.out hl').mono ?_
  rintro e w3 ⟨u', x', rfl, hch, k3⟩
  obtain ⟨rb, hrb⟩ : ∃ r, bs.reverse = r := ⟨_, rfl⟩
  have hrbl : rb.length ≤ 20 := by rw [← hrb]; simpa using hlen'
  rw [hrb] at hch
  have HRB := Lib.hid hrb
  clear hrb
  have HX3 := Lib.hid (HX.out.below k3)
  have HY3 := Lib.hid hch
  clear hch
  have HA3 := Lib.hid (HA2.out.below k3)
  have HB3 := Lib.hid (HB2.out.below k3)
  have HG3 := Lib.hid (HG2.out.below k3)
  have kk3 := kk2.trans (k3.mono kk2.size)
  go_wp2_with fail
  refine (same_any A B la bs c d _ HA3.out HB3.out hl).mono ?_
  rintro e w4 ⟨rfl, nn, rfl⟩
  have k4 := below_draws w3 nn
  have HX4 := Lib.hid (HX3.out.below k4)
  have HY4 := Lib.hid (HY3.out.below k4)
  have HG4 := Lib.hid (HG3.out.below k4)
  have kk4 := kk3.trans (k4.mono kk3.size)
  clear k4
  generalize w3.drewN nn = W4 at *
  by_cases hs : same la bs = true

  · have hab : la = bs := by simpa [same] using hs
    subst hab
    obtain rfl : ra = rb := HRA.out.symm.trans HRB.out
    have HE := Lib.hid (same_self ra)
    rw [hs]
    clear hs
    rcases list_cases ra with ⟨c0, cs0, hr⟩ | hr
    · have hx := HX4.out
      have hy := HY4.out
      rw [hr] at hx hy
      obtain ⟨b, rfl, rfl⟩ := hx.cons_form
      obtain ⟨b', rfl, rfl⟩ := hy.cons_form
      have HX4' := Lib.hid hx
      have HY4' := Lib.hid hy
      have hrl : cs0.length ≤ 20 := by
        rw [hr] at hral; simp at hral; omega
      have HZr : Hid (∀ s ∈ c0 :: cs0, s.size ≤ 60) := fun s hs => HZ.out s (List.mem_reverse.1 (by rw [HRA.out, hr]; exact hs))
      clear hx hy hr
      go_wp2_with fail
      refine (fail_error c0 cs0 b k _ hk1 hk2 hrl HZr.out HX4'.out).mono ?_
      rintro e w5 ⟨rfl, k5⟩
      have HX5 := Lib.hid (HX4.out.below k5)
      have HY5 := Lib.hid (HY4.out.below k5)
      have HY5' := Lib.hid (HY4'.out.below k5)
      have HG5 := Lib.hid (HG4.out.below k5)
      have kk5 := kk4.trans (k5.mono kk4.size)
      go_wp2_with fail
      refine (fail_error c0 cs0 b' k _ hk1 hk2 hrl HZr.out HY5'.out).mono ?_
      rintro e w6 ⟨rfl, k6⟩
      have HX6 := Lib.hid (HX5.out.below k6)
      have HY6 := Lib.hid (HY5.out.below k6)
      have HG6 := Lib.hid (HG5.out.below k6)
      have kk6 := kk5.trans (k6.mono kk5.size)
      go_wp2_with fail
      refine (calls_any ra (some k) _ _ HX6.out HG6.out (by omega) (.inr ⟨_, _, rfl⟩)).mono ?_
      rintro e w7 ⟨v7, rfl, hm7⟩
      obtain ⟨A7, c7, rfl, hS7⟩ := hm7.strs
      have k7 := hm7.2
      have kk7 := kk6.trans (k7.mono kk6.size)
      have HY7 := Lib.hid (HY6.out.below k7)
      have HG7 := Lib.hid (HG6.out.below k7)
      have HM7 := Lib.hid hS7
      clear hm7 hS7
      go_wp2_with fail
      refine (calls_any ra (some k) _ _ HY7.out HG7.out (by omega) (.inr ⟨_, _, rfl⟩)).mono ?_
      rintro e w8 ⟨v8, rfl, hm8⟩
      obtain ⟨A8, c8, rfl, hS8⟩ := hm8.strs
      have k8 := hm8.2
      have kk8 := kk7.trans (k8.mono kk7.size)
      have HM7' := Lib.hid (HM7.out.below k8)
      have HM8 := Lib.hid hS8
      clear hm8 hS8
      go_wp2_with fail
      refine (same_any A7 A8 ra ra c7 c8 _ HM7'.out HM8.out (by simp only [maxLen]; omega)).mono ?_
      rintro e w9 ⟨rfl, nn9, rfl⟩
      rw [HE.out]
      go_wp2
      go_ret
      exact ⟨rfl, kk8.trans ((below_draws w8 nn9).mono kk8.size)⟩
    · have hx := HX4.out
      have hy := HY4.out
      rw [hr] at hx hy
      obtain ⟨rfl, rfl⟩ : u = 25 ∧ x = .int .i64 k := by have : Value.iface u x = .iface 25 (.int .i64 k) := hx; injection this with a b; exact ⟨a, b⟩
      obtain ⟨rfl, rfl⟩ : u' = 25 ∧ x' = .int .i64 k := by have : Value.iface u' x' = .iface 25 (.int .i64 k) := hy; injection this with a b; exact ⟨a, b⟩
      clear hx hy hr
      go_wp2_with fail
      refine (errno_error k _ hk1 hk2).mono ?_
      rintro e w5 ⟨rfl, k5⟩
      have HX5 := Lib.hid (HX4.out.below k5)
      have HY5 := Lib.hid (HY4.out.below k5)
      have HG5 := Lib.hid (HG4.out.below k5)
      have kk5 := kk4.trans (k5.mono kk4.size)
      go_wp2_with fail
      refine (errno_error k _ hk1 hk2).mono ?_
      rintro e w6 ⟨rfl, k6⟩
      have HX6 := Lib.hid (HX5.out.below k6)
      have HY6 := Lib.hid (HY5.out.below k6)
      have HG6 := Lib.hid (HG5.out.below k6)
      have kk6 := kk5.trans (k6.mono kk5.size)
      go_wp2_with fail
      refine (calls_any ra (some k) _ _ HX6.out HG6.out (by omega) (.inr ⟨_, _, rfl⟩)).mono ?_
      rintro e w7 ⟨v7, rfl, hm7⟩
      obtain ⟨A7, c7, rfl, hS7⟩ := hm7.strs
      have k7 := hm7.2
      have kk7 := kk6.trans (k7.mono kk6.size)
      have HY7 := Lib.hid (HY6.out.below k7)
      have HG7 := Lib.hid (HG6.out.below k7)
      have HM7 := Lib.hid hS7
      clear hm7 hS7
      go_wp2_with fail
      refine (calls_any ra (some k) _ _ HY7.out HG7.out (by omega) (.inr ⟨_, _, rfl⟩)).mono ?_
      rintro e w8 ⟨v8, rfl, hm8⟩
      obtain ⟨A8, c8, rfl, hS8⟩ := hm8.strs
      have k8 := hm8.2
      have kk8 := kk7.trans (k8.mono kk7.size)
      have HM7' := Lib.hid (HM7.out.below k8)
      have HM8 := Lib.hid hS8
      clear hm8 hS8
      go_wp2_with fail
      refine (same_any A7 A8 ra ra c7 c8 _ HM7'.out HM8.out (by simp only [maxLen]; omega)).mono ?_
      rintro e w9 ⟨rfl, nn9, rfl⟩
      rw [HE.out]
      go_wp2
      go_ret
      exact ⟨rfl, kk8.trans ((below_draws w8 nn9).mono kk8.size)⟩
  · have hs' : same la bs = false := by simpa using hs
    have HE := Lib.hid (same_false_reverse HRA.out HRB.out hs')
    rw [hs']
    clear hs hs'
    go_wp2_with fail
    refine (calls_any ra (some k) _ _ HX4.out HG4.out (by omega) (.inr ⟨_, _, rfl⟩)).mono ?_
    rintro e w7 ⟨v7, rfl, hm7⟩
    obtain ⟨A7, c7, rfl, hS7⟩ := hm7.strs
    have k7 := hm7.2
    have kk7 := kk4.trans (k7.mono kk4.size)
    have HY7 := Lib.hid (HY4.out.below k7)
    have HG7 := Lib.hid (HG4.out.below k7)
    have HM7 := Lib.hid hS7
    clear hm7 hS7
    go_wp2_with fail
    refine (calls_any rb (some k) _ _ HY7.out HG7.out (by omega) (.inr ⟨_, _, rfl⟩)).mono ?_
    rintro e w8 ⟨v8, rfl, hm8⟩
    obtain ⟨A8, c8, rfl, hS8⟩ := hm8.strs
    have k8 := hm8.2
    have kk8 := kk7.trans (k8.mono kk7.size)
    have HM7' := Lib.hid (HM7.out.below k8)
    have HM8 := Lib.hid hS8
    clear hm8 hS8
    go_wp2_with fail
    refine (same_any A7 A8 ra rb c7 c8 _ HM7'.out HM8.out (by simp only [maxLen]; omega)).mono ?_
    rintro e w9 ⟨rfl, nn9, rfl⟩
    rw [HE.out]
    go_wp2
    go_ret
    exact ⟨rfl, kk8.trans ((below_draws w8 nn9).mono kk8.size)⟩
end Go.Proofs.YtabbmbaokefnpaaDoor

/-
  The law FailIs, walked.
-/
import Derived.Test.YtabbmbaokefnpaaDoorAwake
namespace Go.Proofs.YtabbmbaokefnpaaDoor
open Go.RowKit

theorem number_is (n k : Int) (w : World) (h0 : 0 ≤ n) (h1 : n ≤ 255) (hk : Hid (1 + n % 10 = k)) :
    Calls Tryd.prog 10 #[.int .u8 n] w fun e w' => e = .returned (.int .i64 k) ∧ w = w' := by
  rw [← hk.out]
  exact number_any n w h0 h1

set_option maxHeartbeats 4000000 in
set_option maxRecDepth 100000 in
theorem law_is (A : Option Addr) (ss : List ByteArray) (c : Nat) (n m : Int) (w : World) (h : Strs w A ss) (hl : ss.length ≤ maxLen) (hn0 : 0 ≤ n) (hn1 : n ≤ 255) (hm0 : 0 ≤ m) (hm1 : m ≤ 255) (hg : Ready w) :
    Calls Tryd.prog 4 #[.slice A ss.length c, .int .u8 n, .int .u8 m] w (Returns (.bool true) w) := by
  have HG := Lib.hid hg
  have HS := Lib.hid h
  clear hg h
  obtain ⟨k, hk⟩ : ∃ k, 1 + n % 10 = k := ⟨_, rfl⟩
  obtain ⟨l, hl'⟩ : ∃ l, 1 + m % 10 = l := ⟨_, rfl⟩
  have hk0 : (k == 0) = false := by rw [beq_eq_false_iff_ne]; omega
  have HK := Lib.hid hk
  have HL := Lib.hid hl'
  clear hk hl'
  go_enter Tryd.func4, Tryd.ntmps4
  go_wp2_with fail
  refine (awake_any w HG.out).mono ?_
  rintro e w1 ⟨rfl, k1⟩
  have HS1 := Lib.hid (HS.out.below k1)
  go_wp2_with fail
  refine (few_any A ss c _ HS1.out hl).mono ?_
  rintro e w' ⟨rfl, rfl⟩
  by_cases hf : few ss = true
  · rw [hf]
    have HF := Lib.hid hf
    clear hf
    go_wp2_with fail
    refine (number_is n k _ hn0 hn1 HK).mono ?_
    rintro e w' ⟨rfl, rfl⟩
    go_wp2_with fail
    refine (all_any A ss c k _ hk0 HS1.out hl).mono ?_
    rintro e w2 ⟨u, x, rfl, hch, k2⟩
    have HC := Lib.hid hch
    clear hch
    go_wp2_with fail
    refine (number_is n k _ hn0 hn1 HK).mono ?_
    rintro e w' ⟨rfl, rfl⟩
    go_wp2_with fail
    refine (is_any _ k k u x _ HC.out).mono ?_
    rintro e w' ⟨rfl, rfl⟩
    have hkk : (k == k) = true := by simp
    rw [hkk]
    go_wp2_with fail
    refine (number_is m l _ hm0 hm1 HL).mono ?_
    rintro e w' ⟨rfl, rfl⟩
    go_wp2_with fail
    refine (is_any _ k l u x _ HC.out).mono ?_
    rintro e w' ⟨rfl, rfl⟩
    go_wp2_with fail
    refine (number_is n k _ hn0 hn1 HK).mono ?_
    rintro e w' ⟨rfl, rfl⟩
    go_wp2_with fail
    refine (number_is m l _ hm0 hm1 HL).mono ?_
    rintro e w' ⟨rfl, rfl⟩
    by_cases hkl : (k == l) = true
    · go_wp2
      go_ret
      exact ⟨by simp, k1.trans (k2.mono k1.size)⟩
    · have hkl' : (k == l) = false := by simpa using hkl
      clear hkl
      go_wp2
      go_ret
      exact ⟨by simp, k1.trans (k2.mono k1.size)⟩
  · have hf' : few ss = false := by simpa using hf
    rw [hf']
    clear hf hf'
    go_wp2
    go_ret
    exact ⟨rfl, k1⟩
end Go.Proofs.YtabbmbaokefnpaaDoor

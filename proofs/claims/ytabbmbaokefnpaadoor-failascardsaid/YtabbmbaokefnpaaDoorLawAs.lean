/-
  The law FailAs, walked.
-/
import Derived.Test.YtabbmbaokefnpaaDoorLawTells
namespace Go.Proofs.YtabbmbaokefnpaaDoor
open Go.RowKit

set_option maxHeartbeats 4000000 in
set_option maxRecDepth 100000 in
theorem law_as (A : Option Addr) (ss : List ByteArray) (c : Nat) (call : ByteArray) (n : Int) (w : World) (h : Strs w A ss) (hl : ss.length ≤ maxLen) (hn0 : 0 ≤ n) (hn1 : n ≤ 255) (hg : Ready w) :
    Calls Tryd.prog 5 #[.slice A ss.length c, .string call, .int .u8 n] w (Returns (.bool true) w) := by
  have HG := Lib.hid hg
  have HS := Lib.hid h
  clear hg h
  obtain ⟨k, hk⟩ : ∃ k, 1 + n % 10 = k := ⟨_, rfl⟩
  have hk0 : (k == 0) = false := by rw [beq_eq_false_iff_ne]; omega
  have hk1 : 1 ≤ k := by omega
  have hk2 : k ≤ 10 := by omega
  have HK := Lib.hid hk
  clear hk
  have mE := methodError
  have mR := Tryd.errnoError
  go_enter Tryd.func5, Tryd.ntmps5
  go_wp2_with fail
  refine (awake_any w HG.out).mono ?_
  rintro e w1 ⟨rfl, k1⟩
  have HS1 := Lib.hid (HS.out.below k1)
  have HG1 := Lib.hid (HG.out.below k1)
  go_wp2_with fail
  refine (few_any A ss c _ HS1.out hl).mono ?_
  rintro e w' ⟨rfl, rfl⟩
  by_cases hf : few ss = true
  · rw [hf]
    have hlen := few_len hf
    have HZ := Lib.hid (few_size hf)
    clear hf
    by_cases h60 : 60 < call.size
    · go_wp2
      go_ret
      exact ⟨rfl, k1⟩
    · go_wp2_with fail
      refine (number_is n k _ hn0 hn1 HK).mono ?_
      rintro e w' ⟨rfl, rfl⟩
      go_wp2_with fail
      refine (all_any A ss c k _ hk0 HS1.out hl).mono ?_
      rintro e w2 ⟨u, x, rfl, hch, k2⟩
      have HC := Lib.hid hch
      clear hch
      have HS2 := Lib.hid (HS1.out.below k2)
      have HG2 := Lib.hid (HG1.out.below k2)
      have kk2 := k1.trans (k2.mono k1.size)
      go_wp2_with fail
      refine (wrap_held call u x _).mono ?_
      rintro e w' ⟨rfl, rfl⟩
      have hb3 : Below w2.heap.size w2 ((w2.alloc (.cells #[.string call, .iface u x] 45)).alloc (.cells #[.pointer none] 40)) := ((Below.refl _ _).alloc (Nat.le_refl _) _).alloc (by simp) _
      have HG3 := Lib.hid (HG2.out.below hb3)
      go_wp2_with fail
      refine (as_fail ⟨w2.heap.size, 0, none⟩ ⟨w2.heap.size + 1, 0, none⟩ (.pointer none) _ HG3.out (by simp) (by simp)).mono ?_
      rintro e w4 ⟨rfl, k4⟩
      have hbs : Below w2.heap.size w2 w4 := (hb3.setCell (p := ⟨w2.heap.size + 1, 0, none⟩) (Nat.le_succ _) _).trans (k4.mono (by simp; omega))
      have kk4 := kk2.trans (hbs.mono kk2.size)
      have HC4 := Lib.hid (HC.out.below hbs)
      have HS4 := Lib.hid (HS2.out.below hbs)
      have HG4 := Lib.hid (HG2.out.below hbs)
      have q0 : w4.cell? ⟨w2.heap.size + 1, 0, none⟩ = some (.pointer (some ⟨w2.heap.size, 0, none⟩)) := (k4.cell (p := ⟨w2.heap.size + 1, 0, none⟩) (by simp)).trans (World.cell?_setCell_same' _ _ _ (by simp))
      have q1 : w4.cell? ⟨w2.heap.size, 0, none⟩ = some (.string call) := (k4.cell (p := ⟨w2.heap.size, 0, none⟩) (by simp; omega)).trans ((World.cell?_setCell_other _ ⟨w2.heap.size + 1, 0, none⟩ ⟨w2.heap.size, 0, none⟩ _ (by simp)).trans (by simp))
      have q2 : w4.cell? ⟨w2.heap.size, 1, none⟩ = some (.iface u x) := (k4.cell (p := ⟨w2.heap.size, 1, none⟩) (by simp; omega)).trans ((World.cell?_setCell_other _ ⟨w2.heap.size + 1, 0, none⟩ ⟨w2.heap.size, 1, none⟩ _ (by simp)).trans (by simp))
      clear k4
      go_wp2_with fail
      refine (unwrap_at w2.heap.size _ _ q2).mono ?_
      rintro e w' ⟨rfl, rfl⟩
      have hcases : (∃ c0 cs0, ss.reverse = c0 :: cs0) ∨ ss.reverse = [] := by
        cases ss.reverse with
        | nil => exact .inr rfl
        | cons c0 cs0 => exact .inl ⟨c0, cs0, rfl⟩
      rcases hcases with ⟨c0, cs0, hr⟩ | hr
      · have hch := HC4.out
        clear HC4
        rw [hr] at hch
        obtain ⟨b, rfl, rfl⟩ := hch.cons_form
        have HC4 := Lib.hid hch
        have HR := Lib.hid hr
        have hrl : cs0.length ≤ 20 := by
          have h1 : ss.reverse.length = cs0.length + 1 := by rw [hr]; rfl
          rw [List.length_reverse] at h1; omega
        have HZr : Hid (∀ s ∈ c0 :: cs0, s.size ≤ 60) := fun s hs => HZ.out s (List.mem_reverse.1 (by rw [HR.out]; exact hs))
        clear hch hr
        go_wp2_with fail
        refine (fail_error c0 cs0 b k _ hk1 hk2 hrl HZr.out HC4.out).mono ?_
        rintro e w5 ⟨rfl, k5⟩
        have HC5 := Lib.hid (HC4.out.below k5)
        have HS5 := Lib.hid (HS4.out.below k5)
        have HG5 := Lib.hid (HG4.out.below k5)
        have kk5 := kk4.trans (k5.mono kk4.size)
        go_wp2_with fail
        refine (number_is n k _ hn0 hn1 HK).mono ?_
        rintro e w' ⟨rfl, rfl⟩
        go_wp2_with fail
        refine (errno_error k _ hk1 hk2).mono ?_
        rintro e w6 ⟨rfl, k6⟩
        have HC6 := Lib.hid (HC5.out.below k6)
        have HS6 := Lib.hid (HS5.out.below k6)
        have HG6 := Lib.hid (HG5.out.below k6)
        have kk6 := kk5.trans (k6.mono kk5.size)
        go_wp2_with fail
        refine (text_any A ss c (word k) _ HS6.out (by omega) HZ.out (by have := word_size k; omega)).mono ?_
        rintro e w' ⟨rfl, rfl⟩
        rw [HR.out]
        go_wp2_with fail
        refine (code_some _ k _ _ _ HC6.out HG6.out).mono ?_
        rintro e w7 ⟨rfl, k7⟩
        have kk7 := kk6.trans (k7.mono kk6.size)
        go_wp2_with fail
        refine (number_is n k _ hn0 hn1 HK).mono ?_
        rintro e w' ⟨rfl, rfl⟩
        go_wp2
        go_ret
        exact ⟨rfl, kk7⟩
      · have hch := HC4.out
        clear HC4
        rw [hr] at hch
        have hss : ss = [] := by simpa using hr
        subst hss
        obtain ⟨rfl, rfl⟩ : u = 25 ∧ x = .int .i64 k := by have : Value.iface u x = .iface 25 (.int .i64 k) := hch; injection this with a b; exact ⟨a, b⟩
        have HC4 := Lib.hid hch
        clear hch hr
        go_wp2_with fail
        refine (errno_error k _ hk1 hk2).mono ?_
        rintro e w5 ⟨rfl, k5⟩
        have HC5 := Lib.hid (HC4.out.below k5)
        have HS5 := Lib.hid (HS4.out.below k5)
        have HG5 := Lib.hid (HG4.out.below k5)
        have kk5 := kk4.trans (k5.mono kk4.size)
        go_wp2_with fail
        refine (number_is n k _ hn0 hn1 HK).mono ?_
        rintro e w' ⟨rfl, rfl⟩
        go_wp2_with fail
        refine (errno_error k _ hk1 hk2).mono ?_
        rintro e w6 ⟨rfl, k6⟩
        have HC6 := Lib.hid (HC5.out.below k6)
        have HS6 := Lib.hid (HS5.out.below k6)
        have HG6 := Lib.hid (HG5.out.below k6)
        have kk6 := kk5.trans (k6.mono kk5.size)
        go_wp2_with fail
        refine (text_any A [] c (word k) _ HS6.out (by simp) HZ.out (by have := word_size k; omega)).mono ?_
        rintro e w' ⟨rfl, rfl⟩
        go_wp2_with fail
        refine (code_some _ k _ _ _ HC6.out HG6.out).mono ?_
        rintro e w7 ⟨rfl, k7⟩
        have kk7 := kk6.trans (k7.mono kk6.size)
        go_wp2_with fail
        refine (number_is n k _ hn0 hn1 HK).mono ?_
        rintro e w' ⟨rfl, rfl⟩
        go_wp2
        go_ret
        exact ⟨rfl, kk7⟩
  · have hf' : few ss = false := by simpa using hf
    rw [hf']
    clear hf hf'
    go_wp2
    go_ret
    exact ⟨rfl, k1⟩
end Go.Proofs.YtabbmbaokefnpaaDoor

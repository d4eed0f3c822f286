/-
  slices.SortStableFunc at the program's comparison: rotate, the insertion sort.
-/
import Derived.Test.YtmnpefpglpabmaaDoorQSort
namespace Go.Proofs.YtmnpefpglpabmaaDoor
open Go.RowKit

set_option maxHeartbeats 1000000 in
set_option maxRecDepth 100000 in
theorem rotate_any (bl blk cap N : Nat) (X A B Y : List Nat) (a m b : Nat) (w0 w : World) (ha : a = X.length) (hm : m = a + A.length) (hb : b = m + B.length) (hN : N = b + Y.length) (hl : N ≤ 1000) (hA0 : 0 < A.length) (hB0 : 0 < B.length)
    (h : RowAt blk (X ++ A ++ B ++ Y) w0 w) :
    Calls Tryd.prog 68 #[.slice (some ⟨blk, 0, none⟩) N cap, .int .i64 a, .int .i64 m, .int .i64 b, .func (.func 21) #[] #[.pointer (some ⟨bl, 0, none⟩)]] w fun e w' =>
      e = .returned (.tuple #[]) ∧ RowAt blk (X ++ B ++ A ++ Y) w0 w' := by
  have HH := Lib.hid h
  clear h
  have hab : a < m := by omega
  have hmb : m < b := by omega
  have hbN : b ≤ N := by omega
  have HX : Hid (a = X.length ∧ m = a + A.length ∧ b = m + B.length ∧ N = b + Y.length) := ⟨ha, hm, hb, hN⟩
  clear ha hm hb hN hA0 hB0
  go_enter Tryd.func68, Tryd.ntmps68
  go_wp2
  go_loopw [10, 11] (fun s t wr => ∃ (i j : Nat) (P A' B' Q : List Nat), s = .int .i64 i ∧ t = .int .i64 j ∧ 0 < i ∧ 0 < j ∧ i + P.length = m ∧ A'.length = i ∧ B'.length = j ∧ m + j + Q.length = N ∧ P ++ B' ++ A' ++ Q = X ++ B ++ A ++ Y ∧ RowAt blk (P ++ A' ++ B' ++ Q) w0 wr) (fun s t _ => (intOf s).toNat + (intOf t).toNat)
  case atStart =>
    obtain ⟨h1, h2, h3, h4⟩ := HX.out
    exact ⟨A.length, B.length, X, A, B, Y, by go_num, by go_num, by omega, by omega, by omega, rfl, rfl, by omega, rfl, HH.out⟩
  case round =>
    obtain ⟨i, j, P, A', B', Q, rfl, rfl, hi, hj, hP, hA, hB, hQ, he, hr⟩ := hrel
    have HE := Lib.hid he
    have HR := Lib.hid hr
    clear he hr HH
    have HP : Hid (i + P.length = m ∧ A'.length = i ∧ B'.length = j ∧ m + j + Q.length = N) := ⟨hP, hA, hB, hQ⟩
    have him : i ≤ m := by omega
    have hjN : m + j ≤ N := by omega
    clear hP hA hB hQ
    by_cases hij : i = j
    · have hne : ((i : Int) != (j : Int)) = false := by rw [bne_eq_false_iff_eq]; omega
      have HS : Hid (∀ w1, RowAt blk (P ++ A' ++ B' ++ Q) w0 w1 → Calls Tryd.prog 72 #[.slice (some ⟨blk, 0, none⟩) N cap, .int .i64 ((m : Int) - (i : Int)), .int .i64 m, .int .i64 i, .func (.func 21) #[] #[.pointer (some ⟨bl, 0, none⟩)]] w1 fun e w' => e = .returned (.tuple #[]) ∧ RowAt blk (X ++ B ++ A ++ Y) w0 w') := by
        intro w1 h1
        obtain ⟨hP, hA, hB, hQ⟩ := HP.out
        have := swapRange_any bl blk cap P A' [] B' Q P.length m i w0 w1 rfl hA (by omega) (by simp; omega) (by simp; omega) (by simpa using h1)
        rw [show P.length + A'.length + ([] : List Nat).length + B'.length + Q.length = N by simp; omega, show ((P.length : Nat) : Int) = (m : Int) - (i : Int) by omega] at this
        refine this.mono ?_
        rintro e w' ⟨he, hr⟩
        exact ⟨he, by rw [← HE.out]; simpa using hr⟩
      clear hij
      go_wp2_with (go_at_call 72; refine (HS.out _ HR.out).mono ?_; rintro e w' ⟨rfl, hr⟩)
      go_end0
      exact ⟨rfl, hr⟩
    · have hne : ((i : Int) != (j : Int)) = true := by rw [bne_iff_ne]; omega
      by_cases hgt : j < i
      · obtain ⟨A1, A2, hA12, hA1⟩ : ∃ A1 A2, A' = A1 ++ A2 ∧ A1.length = j := by
          obtain ⟨hP, hA, hB, hQ⟩ := HP.out
          exact ⟨A'.take j, A'.drop j, (List.take_append_drop _ _).symm, by simp; omega⟩
        have HS : Hid (∀ w1, RowAt blk (P ++ A' ++ B' ++ Q) w0 w1 → Calls Tryd.prog 72 #[.slice (some ⟨blk, 0, none⟩) N cap, .int .i64 ((m : Int) - (i : Int)), .int .i64 m, .int .i64 j, .func (.func 21) #[] #[.pointer (some ⟨bl, 0, none⟩)]] w1 fun e w' => e = .returned (.tuple #[]) ∧ RowAt blk ((P ++ B') ++ A2 ++ A1 ++ Q) w0 w') := by
          intro w1 h1
          obtain ⟨hP, hA, hB, hQ⟩ := HP.out
          subst hA12
          rw [List.length_append] at hA
          have := swapRange_any bl blk cap P A1 A2 B' Q P.length m j w0 w1 rfl hA1 hB (by omega) (by omega) (by simpa using h1)
          rw [show P.length + A1.length + A2.length + B'.length + Q.length = N by omega, show ((P.length : Nat) : Int) = (m : Int) - (i : Int) by omega] at this
          refine this.mono ?_
          rintro e w' ⟨he, hr⟩
          exact ⟨he, by simpa using hr⟩
        have HA := Lib.hid (And.intro hA12 hA1)
        clear hA12 hA1
        clear hij
        go_wp2_with (go_at_call 72; refine (HS.out _ HR.out).mono ?_; rintro e w' ⟨rfl, hr⟩; have HR2 := Lib.hid hr; clear hr)
        go_roundw
        case rel =>
          obtain ⟨hP, hA, hB, hQ⟩ := HP.out
          obtain ⟨hA12, hA1⟩ := HA.out
          have hA2 := hA
          rw [hA12, List.length_append] at hA2
          exact ⟨i - j, j, P ++ B', A2, A1, Q, by go_num, by go_num, by omega, by omega, by simp; omega, by omega, hA1, by omega, by rw [← HE.out, hA12]; simp, HR2.out⟩
        case measure => simp [intOf]; omega
      · obtain ⟨B1, B2, hB12, hB2⟩ : ∃ B1 B2, B' = B1 ++ B2 ∧ B2.length = i := by
          obtain ⟨hP, hA, hB, hQ⟩ := HP.out
          exact ⟨B'.take (j - i), B'.drop (j - i), (List.take_append_drop _ _).symm, by simp; omega⟩
        have HS : Hid (∀ w1, RowAt blk (P ++ A' ++ B' ++ Q) w0 w1 → Calls Tryd.prog 72 #[.slice (some ⟨blk, 0, none⟩) N cap, .int .i64 ((m : Int) - (i : Int)), .int .i64 ((m : Int) + (j : Int) - (i : Int)), .int .i64 i, .func (.func 21) #[] #[.pointer (some ⟨bl, 0, none⟩)]] w1 fun e w' => e = .returned (.tuple #[]) ∧ RowAt blk (P ++ B2 ++ B1 ++ (A' ++ Q)) w0 w') := by
          intro w1 h1
          obtain ⟨hP, hA, hB, hQ⟩ := HP.out
          subst hB12
          rw [List.length_append] at hB
          have := swapRange_any bl blk cap P A' B1 B2 Q P.length (m + j - i) i w0 w1 rfl hA hB2 (by omega) (by omega) (by simpa using h1)
          rw [show P.length + A'.length + B1.length + B2.length + Q.length = N by omega, show ((P.length : Nat) : Int) = (m : Int) - (i : Int) by omega, show ((m + j - i : Nat) : Int) = (m : Int) + (j : Int) - (i : Int) by omega] at this
          refine this.mono ?_
          rintro e w' ⟨he, hr⟩
          exact ⟨he, by simpa using hr⟩
        have HA := Lib.hid (And.intro hB12 hB2)
        clear hB12 hB2
        have hlt : i < j := by omega
        clear hij
        go_wp2_with (go_at_call 72; refine (HS.out _ HR.out).mono ?_; rintro e w' ⟨rfl, hr⟩; have HR2 := Lib.hid hr; clear hr)
        go_roundw
        case rel =>
          obtain ⟨hP, hA, hB, hQ⟩ := HP.out
          obtain ⟨hB12, hB2⟩ := HA.out
          have hB3 := hB
          rw [hB12, List.length_append] at hB3
          exact ⟨i, j - i, P, B2, B1, A' ++ Q, by go_num, by go_num, by omega, by omega, by omega, hB2, by omega, by simp; omega, by rw [← HE.out, hB12]; simp, HR2.out⟩
        case measure => simp [intOf]; omega
end Go.Proofs.YtmnpefpglpabmaaDoor

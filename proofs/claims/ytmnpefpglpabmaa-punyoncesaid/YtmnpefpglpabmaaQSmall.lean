/-
  The program's small functions of layer 4: isScalar, threshold, valueOf, adapt, Compare.
-/
import Derived.Test.YtmnpefpglpabmaaNSmall
import Derived.Test.YtmnpefpglpabmaaApp
namespace Go.Proofs.Ytmnpefpglpabmaa
open Go.RowKit

set_option maxHeartbeats 400000 in
theorem qscalar_any (n : Int) (w : World) :
    Calls Try.prog 15 #[.int .i64 n] w fun e w' => e = .returned (.bool (scal n)) ∧ w = w' := by
  go_enter Try.func15, Try.ntmps15
  go_wp2
  all_goals
    go_ret
    refine ⟨ret_bool ?_, rfl⟩
    rw [Bool.eq_iff_iff, scal_iff]
    simp
    try omega

theorem qthr_any (k b : Nat) (x y : Int) (w : World) (hx : x = (k : Int)) (hy : y = (b : Int)) (_ : k ≤ 1125899906842624) (hb : b ≤ 1125899906842624) :
    Calls Try.prog 31 #[.int .i64 x, .int .i64 y] w fun e w' => e = .returned (.int .i64 (thr k b : Int)) ∧ w = w' := by
  subst hx; subst hy
  go_enter Try.func31, Try.ntmps31
  go_wp2
  all_goals
    go_ret
    refine ⟨ret_int ?_, rfl⟩
    unfold thr
    repeat' split
    all_goals omega

/-- A digit's value, and whether it is one. -/
def dvalN (c : Int) : Int := if 0 ≤ dval c then dval c else 0
set_option maxHeartbeats 400000 in
theorem qvalue_any (c : UInt8) (w : World) :
    Calls Try.prog 30 #[.int .u8 (c.toNat : Int)] w fun e w' => e = .returned (.tuple #[.int .i64 (dvalN c.toNat), .bool (decide (0 ≤ dval c.toNat))]) ∧ w = w' := by
  have hu := c.toNat_lt
  have key : ∀ (v : Int) (t : Bool), (dval c.toNat = v ∧ 0 ≤ v ∧ t = true) ∨ (dval c.toNat < 0 ∧ v = 0 ∧ t = false) → Ending.returned (.tuple #[.int .i64 v, .bool t]) = .returned (.tuple #[.int .i64 (dvalN c.toNat), .bool (decide (0 ≤ dval c.toNat))]) := by
    intro v t h
    unfold dvalN
    rcases h with ⟨h1, h2, rfl⟩ | ⟨h1, rfl, rfl⟩
    · rw [h1, if_pos h2, decide_eq_true h2]
    · rw [if_neg (by omega), decide_eq_false (by omega)]
  go_enter Try.func30, Try.ntmps30
  go_wp2
  all_goals
    go_ret2
    refine ⟨key _ _ ?_, rfl⟩
    unfold dval
    repeat' split
    all_goals (first | (left; refine ⟨?_, ?_, rfl⟩ <;> omega) | (right; refine ⟨?_, ?_, rfl⟩ <;> omega))

set_option maxHeartbeats 400000 in
theorem qadapt_any (delta many : Nat) (once : Bool) (x y : Int) (w : World) (hx : x = (delta : Int)) (hy : y = (many : Int)) (hd : delta ≤ 2199023255552) (hm0 : 1 ≤ many) (hm1 : many ≤ 2199023255552) :
    Calls Try.prog 25 #[.int .i64 x, .int .i64 y, .bool once] w fun e w' => e = .returned (.int .i64 (adapt delta many once : Int)) ∧ w = w' := by
  subst hx; subst hy
  obtain ⟨d0, hd0⟩ : ∃ d0, (if once then delta / 700 else delta / 2) = d0 := ⟨_, rfl⟩
  have hd1 : d0 ≤ delta := by rw [← hd0]; split <;> omega
  obtain ⟨q, hqe⟩ : ∃ q, d0 / many = q := ⟨_, rfl⟩
  have hq : q ≤ d0 := by rw [← hqe]; exact Nat.div_le_self _ _
  have HA : Hid (adaptLoop (d0 + q) 0 = adapt delta many once) := by
    show adaptLoop (d0 + q) 0 = adapt delta many once
    unfold adapt; rw [hd0, hqe]
  have hdiv : (d0 : Int) / (many : Int) = (q : Int) := by
    rw [← hqe]; exact (Int.natCast_ediv _ _).symm
  clear hqe
  have hh : (if once then (delta : Int) / 700 else (delta : Int) / 2) = (d0 : Int) := by
    rw [← hd0]; split <;> omega
  clear hd0
  cases once
  all_goals
    simp only [if_true, if_false, Bool.false_eq_true] at hh
    go_enter Try.func25, Try.ntmps25
    go_wp2
    go_loopw [0, 7] (fun a b wr => ∃ d k : Nat, a = .int .i64 d ∧ b = .int .i64 k ∧ wr = w ∧ adaptLoop d k = adapt delta many _ ∧ d + k ≤ 4398046511104) (fun a _ _ => (intOf a).toNat)
    case atStart => exact ⟨d0 + q, 0, by go_num, rfl, rfl, HA.out, by omega⟩
    case round =>
      obtain ⟨d, k, rfl, rfl, rfl, hl, hb⟩ := hrel
      have HL := Lib.hid hl
      clear hl hdiv hh
      by_cases h : 455 < d
      · have HM := Lib.hid (adaptLoop_more (k := k) h)
        go_wp2
        go_roundw
        case rel => exact ⟨d / 35, k + 36, by go_num, by go_num, by first | rfl | trivial, by rw [← HM.out]; exact HL.out, by omega⟩
        case measure => simp [intOf]; omega
      · have HM := Lib.hid (adaptLoop_end (k := k) h)
        obtain ⟨r, hr⟩ : ∃ r, 36 * d / (d + 38) = r := ⟨_, rfl⟩
        have hr0 : r ≤ 36 := by
          rw [← hr]
          apply Nat.div_le_of_le_mul
          rw [Nat.mul_comm]
          exact Nat.mul_le_mul_right _ (by omega)
        have hri : (36 * (d : Int)) / ((d : Int) + 38) = (r : Int) := by
          rw [← hr]
          simp
        rw [hr] at HM
        clear hr
        go_wp2
        go_ret
        exact ⟨ret_int (by rw [← HL.out, HM.out]; omega), rfl⟩

/-- Compare. -/
def cmpI (a b : Int) : Int := if a < b then -1 else if b < a then 1 else 0
set_option maxHeartbeats 400000 in
theorem qnan_any (a : Int) (w : World) :
    Calls Try.prog 39 #[.int .i32 a] w fun e w' => e = .returned (.bool false) ∧ w = w' := by
  go_enter Try.func39, Try.ntmps39
  go_wp2
  all_goals
    go_ret
    refine ⟨ret_bool (by simp), rfl⟩
set_option maxHeartbeats 400000 in
theorem qcmp_any (a b : Int) (w : World) :
    Calls Try.prog 22 #[.int .i32 a, .int .i32 b] w fun e w' => e = .returned (.int .i64 (cmpI a b)) ∧ w = w' := by
  go_enter Try.func22, Try.ntmps22
  go_wp2_with (first
    | (go_at_call 39; refine (qnan_any _ _).mono ?_; rintro e w' ⟨rfl, rfl⟩))
  all_goals
    go_ret
    refine ⟨ret_int ?_, rfl⟩
    unfold cmpI
    repeat' split
    all_goals omega

set_option maxHeartbeats 400000 in
/-- The builder's length. -/
theorem qlen_any (B b : Nat) (l : List UInt8) (w : World) (h : Lib.IsBuilder 43 5 B b (Lib.byteCells l) w) :
    Calls Try.prog 19 #[.pointer (some ⟨b, 0, none⟩)] w fun e w' => e = .returned (.int .i64 l.length) ∧ w = w' := by
  obtain ⟨A, n, c, c1, hn⟩ : ∃ A n c, w.cell? ⟨b, 1, none⟩ = some (.slice A n c) ∧ n = l.length := by
    have : ∀ p, Lib.BuilderAt 43 5 B b p (Lib.byteCells l) w → ∃ A n c, w.cell? ⟨b, 1, none⟩ = some (.slice A n c) ∧ n = l.length := by
      rintro p ⟨_, v, hbk, hown, _⟩
      have e : w.cell? ⟨b, 1, none⟩ = some v := by rw [Lib.cell_of_heap hbk]; rfl
      rcases hown.2 with ⟨hv, h0⟩ | ⟨g, cap, cur, hv, _⟩
      · exact ⟨_, _, _, by rw [e, hv], by simpa [Lib.byteCells] using h0.symm⟩
      · exact ⟨_, _, _, by rw [e, hv], by simp [Lib.byteCells]⟩
    rcases h with h | h
    · exact this _ h
    · exact this _ h
  subst hn
  go_enter Try.func19, Try.ntmps19
  go_wp2
  go_ret
  exact ⟨rfl, rfl⟩
end Go.Proofs.Ytmnpefpglpabmaa

/-
  The document's small functions of layer 4 (Threshold, digit, value, Adapt, tell, least, hyphen, weighted), by their contracts.
-/
import Derived.Test.YtmnpefpglpabmaaDoorNMath4
import Derived.Test.YtmnpefpglpabmaaDoorRef3
namespace Go.Proofs.YtmnpefpglpabmaaDoor
open Go.RowKit

theorem thr_any (k b : Nat) (x y : Int) (w : World) (hx : x = (k : Int)) (hy : y = (b : Int)) (_ : k ≤ 1125899906842624) (hb : b ≤ 1125899906842624) :
    Calls Tryd.prog 48 #[.int .i64 x, .int .i64 y] w fun e w' => e = .returned (.int .i64 (thr k b : Int)) ∧ w = w' := by
  subst hx; subst hy
  go_enter Tryd.func48, Tryd.ntmps48
  go_wp2
  all_goals
    go_ret
    refine ⟨ret_int ?_, rfl⟩
    unfold thr
    repeat' split
    all_goals omega

theorem digit_any (n : Nat) (x : Int) (w : World) (hx : x = (n : Int)) (hn : n < 36) :
    Calls Tryd.prog 49 #[.int .i64 x] w fun e w' => e = .returned (.int .u8 ((dig n).toNat : Int)) ∧ w = w' := by
  subst hx
  go_enter Tryd.func49, Tryd.ntmps49
  go_wp2
  all_goals
    go_ret
    refine ⟨ret_int ?_, rfl⟩
    unfold dig
    first
    | (rw [if_pos (by omega), ofNat_toNat (97 + n) (by omega)]; omega)
    | (rw [if_neg (by omega), ofNat_toNat (22 + n) (by omega)]; omega)

theorem value4_any (c : UInt8) (w : World) :
    Calls Tryd.prog 57 #[.int .u8 (c.toNat : Int)] w fun e w' => e = .returned (.int .i64 (dval c.toNat)) ∧ w = w' := by
  have hu := c.toNat_lt
  go_enter Tryd.func57, Tryd.ntmps57
  go_wp2
  all_goals
    go_ret
    refine ⟨ret_int ?_, rfl⟩
    unfold dval
    repeat' split
    all_goals omega

theorem adaptLoop_le : ∀ (d k : Nat), adaptLoop d k ≤ d + k + 36 := by
  intro d
  induction d using Nat.strongRecOn with
  | _ d ih =>
    intro k
    rw [adaptLoop]
    split
    · have := ih (d / 35) (by omega) (k + 36)
      omega
    · have : 36 * d / (d + 38) ≤ 36 := by
        apply Nat.div_le_of_le_mul
        rw [Nat.mul_comm]
        exact Nat.mul_le_mul_right _ (by omega)
      omega
theorem adapt_le (delta many : Nat) (once : Bool) : adapt delta many once ≤ delta + 36 := by
  unfold adapt
  have h1 := adaptLoop_le ((if once then delta / 700 else delta / 2) + (if once then delta / 700 else delta / 2) / many) 0
  have h2 : (if once then delta / 700 else delta / 2) ≤ delta / 2 := by split <;> omega
  have h3 : (if once then delta / 700 else delta / 2) / many ≤ (if once then delta / 700 else delta / 2) := Nat.div_le_self _ _
  omega

theorem adaptLoop_more {d k : Nat} (h : 455 < d) : adaptLoop d k = adaptLoop (d / 35) (k + 36) := by rw [adaptLoop, dif_pos h]
theorem adaptLoop_end {d k : Nat} (h : ¬ 455 < d) : adaptLoop d k = k + 36 * d / (d + 38) := by rw [adaptLoop, dif_neg h]

set_option maxHeartbeats 400000 in
theorem adapt_any (delta many : Nat) (once : Bool) (x y : Int) (w : World) (hx : x = (delta : Int)) (hy : y = (many : Int)) (hd : delta ≤ 2199023255552) (hm0 : 1 ≤ many) (hm1 : many ≤ 2199023255552) :
    Calls Tryd.prog 30 #[.int .i64 x, .int .i64 y, .bool once] w fun e w' => e = .returned (.int .i64 (adapt delta many once : Int)) ∧ w = w' := by
  subst hx; subst hy
  obtain ⟨d0, hd0⟩ : ∃ d0, (if once then delta / 700 else delta / 2) = d0 := ⟨_, rfl⟩
  have hd1 : d0 ≤ delta := by rw [← hd0]; split <;> omega
  obtain ⟨q, hqe⟩ : ∃ q, d0 / many = q := ⟨_, rfl⟩
  have hq : q ≤ d0 := by rw [← hqe]; exact Nat.div_le_self _ _
  have HA : Hid (adaptLoop (d0 + q) 0 = adapt delta many once) := by
    show adaptLoop (d0 + q) 0 = adapt delta many once
    unfold adapt; rw [hd0, hqe]
  have hdiv : (d0 : Int) / (many : Int) = (q : Int) := by
    rw [← hqe]; exact (Int.natCast_ediv _ _).symm
  clear hqe
  have hh : (if once then (delta : Int) / 700 else (delta : Int) / 2) = (d0 : Int) := by
    rw [← hd0]; split <;> omega
  clear hd0
  cases once
  all_goals
    simp only [if_true, if_false, Bool.false_eq_true] at hh
    go_enter Tryd.func30, Tryd.ntmps30
    go_wp2
    go_loopw [7, 8] (fun a b wr => ∃ d k : Nat, a = .int .i64 d ∧ b = .int .i64 k ∧ wr = w ∧ adaptLoop d k = adapt delta many _ ∧ d + k ≤ 4398046511104) (fun a _ _ => (intOf a).toNat)
    case atStart => exact ⟨d0 + q, 0, by go_num, rfl, rfl, HA.out, by omega⟩
    case round =>
      obtain ⟨d, k, rfl, rfl, rfl, hl, hb⟩ := hrel
      have HL := Lib.hid hl
      clear hl hdiv hh
      by_cases h : 455 < d
      · have HM := Lib.hid (adaptLoop_more (k := k) h)
        go_wp2
        go_roundw
        case rel => exact ⟨d / 35, k + 36, by go_num, by go_num, by first | rfl | trivial, by rw [← HM.out]; exact HL.out, by omega⟩
        case measure => simp [intOf]; omega
      · have HM := Lib.hid (adaptLoop_end (k := k) h)
        obtain ⟨r, hr⟩ : ∃ r, 36 * d / (d + 38) = r := ⟨_, rfl⟩
        have hr0 : r ≤ 36 := by
          rw [← hr]
          apply Nat.div_le_of_le_mul
          rw [Nat.mul_comm]
          exact Nat.mul_le_mul_right _ (by omega)
        have hri : (36 * (d : Int)) / ((d : Int) + 38) = (r : Int) := by
          rw [← hr]
          simp
        rw [hr] at HM
        clear hr
        go_wp2
        go_ret
        exact ⟨ret_int (by rw [← HL.out, HM.out]; omega), rfl⟩
end Go.Proofs.YtmnpefpglpabmaaDoor

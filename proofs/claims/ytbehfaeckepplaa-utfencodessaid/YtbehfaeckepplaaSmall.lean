/-
  The small functions of package utf and of the document's answers of layer 2, by their contracts.
-/
import Derived.Test.YtbehfaeckepplaaRows
import Derived.Test.YtbehfaeckepplaaMath
import Derived.WalkKit
import Derived.WalkSpells
import Derived.WalkLawsBesides
import Derived.Lib.Hide
import Derived.Deep.QuietTactic
import Derived.BigQuiet
import Derived.Deep.Light
import Derived.Maps.AppendAt
namespace Go.Proofs.Ytbehfaeckepplaa
open Go.RowKit

theorem ret_bool {a b : Bool} (h : a = b) : Ending.returned (.bool a) = .returned (.bool b) := by rw [h]
theorem ret_int {k : IntKind} {a b : Int} (h : a = b) : Ending.returned (.int k a) = .returned (.int k b) := by rw [h]

set_option maxHeartbeats 400000 in
theorem scalar_any (c : Int) (w : World) :
    Calls Try.prog 16 #[.int .i32 c] w fun e w' => e = .returned (.bool (scal c)) ∧ w = w' := by
  go_enter Try.func16, Try.ntmps16
  go_wp2
  all_goals
    go_ret
    refine ⟨ret_bool ?_, rfl⟩
    rw [Bool.eq_iff_iff, scal_iff]
    simp
    try omega

set_option maxHeartbeats 400000 in
theorem many_any (c : Int) (w : World) :
    Calls Try.prog 19 #[.int .u8 c] w fun e w' => e = .returned (.int .i64 (lensOf c)) ∧ w = w' := by
  go_enter Try.func19, Try.ntmps19
  go_wp2
  all_goals
    go_ret
    refine ⟨ret_int ?_, rfl⟩
    first
    | (rw [lens_1 (by omega)]; rfl)
    | (rw [lens_2 (by omega) (by omega)]; rfl)
    | (rw [lens_3 (by omega) (by omega)]; rfl)
    | (rw [lens_4 (by omega) (by omega)]; rfl)
    | (rw [lens_0 (by omega) (by omega)]; rfl)

set_option maxHeartbeats 400000 in
theorem follows_any (a c : Int) (k : Nat) (w : World) (hk : 1 ≤ k) :
    Calls Try.prog 25 #[.int .u8 a, .int .u8 c, .int .i64 k] w fun e w' => e = .returned (.bool (fol a c k)) ∧ w = w' := by
  go_enter Try.func25, Try.ntmps25
  go_wp2
  all_goals
    go_ret
    refine ⟨ret_bool ?_, rfl⟩
    rw [Bool.eq_iff_iff, fol_iff]
    go_light
    unfold lo hi
    repeat' split
    all_goals (first | (simp; done) | (simp; omega))


set_option maxHeartbeats 400000 in
theorem wanting_any (p q : Addr) (m k : Int) (w : World) (h1 : w.cell? p = some (.int .i64 m)) (h2 : w.cell? q = some (.int .i64 k)) (hm0 : -10 ≤ m) (hm1 : m ≤ 10) (hk0 : 0 ≤ k) (hk1 : k ≤ 10) :
    Calls Try.prog 23 #[.pointer (some p), .pointer (some q)] w fun e w' => e = .returned (.int .i64 (1 + m - k)) ∧ w = w' := by
  go_enter Try.func23, Try.ntmps23
  go_wp2
  go_ret
  exact ⟨rfl, rfl⟩

theorem bcell {W w1 : World} (hb : Below W.heap.size W w1) : (∀ b o, b < W.heap.size → w1.cell? ⟨b, o, none⟩ = W.cell? ⟨b, o, none⟩) ∧ (∀ b o, b < W.heap.size → w1.frozen? ⟨b, o, none⟩ = W.frozen? ⟨b, o, none⟩) :=
  ⟨fun b o h => hb.cell (p := ⟨b, o, none⟩) h, fun b o h => hb.frozen (p := ⟨b, o, none⟩) h⟩

set_option maxHeartbeats 400000 in
theorem anyNext_any (w : World) :
    Calls Try.prog 24 #[] w fun e w' => e = .returned (.agg #[.int .u8 128, .int .u8 191]) ∧ w.alloc (.cells #[.int .u8 128, .int .u8 191] 38) = w' := by
  go_enter Try.func24, Try.ntmps24
  go_wp2
  exact bodyPost_ret (v := .agg #[.int .u8 128, .int .u8 191]) (by simp [results, Try.results24, go_sem]) rfl ⟨rfl, rfl⟩

theorem lo1 {a : Int} (h : ¬ a = 224) (h2 : ¬ a = 240) : lo a 1 = 128 := by unfold lo; rw [if_neg (by omega), if_neg (by omega)]
theorem hi1 {a : Int} (h : ¬ a = 237) (h2 : ¬ a = 244) : hi a 1 = 191 := by unfold hi; rw [if_neg (by omega), if_neg (by omega)]

set_option maxHeartbeats 1000000 in
theorem secondOf_any (a : Int) (w : World) :
    Calls Try.prog 26 #[.int .u8 a] w fun e w' => e = .returned (.agg #[.int .u8 (lo a 1), .int .u8 (hi a 1)]) ∧
      ((w.alloc (.cells #[.int .u8 (lo a 1), .int .u8 (hi a 1)] 38)).alloc (.cells #[.int .u8 128, .int .u8 191] 38)).alloc (.cells #[.int .u8 (lo a 1), .int .u8 (hi a 1)] 38) = w' := by
  go_enter Try.func26, Try.ntmps26
  go_wp2_with (go_at_call 24; refine (anyNext_any _).mono ?_; rintro e w' ⟨rfl, rfl⟩)
  all_goals
    have el : (lo a 1 = 160 ∧ a = 224) ∨ (lo a 1 = 144 ∧ a = 240) ∨ (lo a 1 = 128 ∧ ¬ a = 224 ∧ ¬ a = 240) := by
      unfold lo; repeat' split
      all_goals omega
    have eh : (hi a 1 = 159 ∧ a = 237) ∨ (hi a 1 = 143 ∧ a = 244) ∨ (hi a 1 = 191 ∧ ¬ a = 237 ∧ ¬ a = 244) := by
      unfold hi; repeat' split
      all_goals omega
    simp only [beq_iff_eq, beq_eq_false_iff_ne, ne_eq] at *
    first
    | (rw [show lo a 1 = 160 by omega, show hi a 1 = 191 by omega]; exact bodyPost_ret (v := .agg #[.int .u8 160, .int .u8 191]) (by simp [results, Try.results26, go_sem]) rfl ⟨rfl, rfl⟩)
    | (rw [show lo a 1 = 144 by omega, show hi a 1 = 191 by omega]; exact bodyPost_ret (v := .agg #[.int .u8 144, .int .u8 191]) (by simp [results, Try.results26, go_sem]) rfl ⟨rfl, rfl⟩)
    | (rw [show lo a 1 = 128 by omega, show hi a 1 = 159 by omega]; exact bodyPost_ret (v := .agg #[.int .u8 128, .int .u8 159]) (by simp [results, Try.results26, go_sem]) rfl ⟨rfl, rfl⟩)
    | (rw [show lo a 1 = 128 by omega, show hi a 1 = 143 by omega]; exact bodyPost_ret (v := .agg #[.int .u8 128, .int .u8 143]) (by simp [results, Try.results26, go_sem]) rfl ⟨rfl, rfl⟩)
    | (rw [show lo a 1 = 128 by omega, show hi a 1 = 191 by omega]; exact bodyPost_ret (v := .agg #[.int .u8 128, .int .u8 191]) (by simp [results, Try.results26, go_sem]) rfl ⟨rfl, rfl⟩)

/-- What the first byte says of the scalar. -/
def leadBits (a : Int) : Int := if lensOf a = 0 then 65533 else headBits a (lensOf a)

set_option maxHeartbeats 1000000 in
theorem lead_any (a : Int) (w : World) (h0 : 0 ≤ a) (h1 : a ≤ 255) :
    Calls Try.prog 22 #[.int .u8 a] w fun e w' => e = .returned (.tuple #[.int .i32 (leadBits a), .int .i64 ((lensOf a : Int) - 1), .agg #[.int .u8 (lo a 1), .int .u8 (hi a 1)]]) ∧ Below w.heap.size w w' := by
  go_enter Try.func22, Try.ntmps22
  go_wp2_with (first
    | (go_at_call 24; refine (anyNext_any _).mono ?_; rintro e w' ⟨rfl, rfl⟩)
    | (go_at_call 26; refine (secondOf_any _ _).mono ?_; rintro e w' ⟨rfl, rfl⟩))
  all_goals
    first
    | (have hl : lensOf a = 1 := lens_1 (by omega)
       have hb : leadBits a = a := by unfold leadBits headBits; rw [hl]; simp; try omega
       refine bodyPost_ret (v := .tuple #[.int .i32 (a), .int .i64 (0), .agg #[.int .u8 128, .int .u8 191]]) (by simp [results, Try.results22, go_sem]) rfl ⟨?_, (((Below.refl _ _).alloc (Nat.le_refl _) _).alloc (by simp) _)⟩
       rw [hb, hl, lo1 (by omega) (by omega), hi1 (by omega) (by omega)]; rfl)
    | (have hl : lensOf a = 0 := lens_0 (by omega) (by omega)
       have hb : leadBits a = 65533 := by unfold leadBits headBits; rw [hl]; simp; try omega
       refine bodyPost_ret (v := .tuple #[.int .i32 (65533), .int .i64 (-1), .agg #[.int .u8 128, .int .u8 191]]) (by simp [results, Try.results22, go_sem]) rfl ⟨?_, (((Below.refl _ _).alloc (Nat.le_refl _) _).alloc (by simp) _)⟩
       rw [hb, hl, lo1 (by omega) (by omega), hi1 (by omega) (by omega)]; rfl)
    | (have hl : lensOf a = 2 := lens_2 (by omega) (by omega)
       have hb : leadBits a = a % 32 := by unfold leadBits headBits; rw [hl]; simp; try omega
       refine bodyPost_ret (v := .tuple #[.int .i32 (a % 32), .int .i64 (1), .agg #[.int .u8 128, .int .u8 191]]) (by simp [results, Try.results22, go_sem]) rfl ⟨?_, (((Below.refl _ _).alloc (Nat.le_refl _) _).alloc (by simp) _)⟩
       rw [hb, hl, lo1 (by omega) (by omega), hi1 (by omega) (by omega)]; rfl)
    | (have hl : lensOf a = 3 := lens_3 (by omega) (by omega)
       have hb : leadBits a = a % 16 := by unfold leadBits headBits; rw [hl]; simp; try omega
       refine bodyPost_ret (v := .tuple #[.int .i32 (a % 16), .int .i64 (2), .agg #[.int .u8 (lo a 1), .int .u8 (hi a 1)]]) (by simp [results, Try.results22, go_sem]) rfl ⟨?_, (((((Below.refl _ _).alloc (Nat.le_refl _) _).alloc (by simp) _).alloc (by simp; omega) _).alloc (by simp; omega) _)⟩
       rw [hb, hl]; rfl)
    | (have hl : lensOf a = 4 := lens_4 (by omega) (by omega)
       have hb : leadBits a = a % 8 := by unfold leadBits headBits; rw [hl]; simp; try omega
       refine bodyPost_ret (v := .tuple #[.int .i32 (a % 8), .int .i64 (3), .agg #[.int .u8 (lo a 1), .int .u8 (hi a 1)]]) (by simp [results, Try.results22, go_sem]) rfl ⟨?_, (((((Below.refl _ _).alloc (Nat.le_refl _) _).alloc (by simp) _).alloc (by simp; omega) _).alloc (by simp; omega) _)⟩
       rw [hb, hl]; rfl)
end Go.Proofs.Ytbehfaeckepplaa

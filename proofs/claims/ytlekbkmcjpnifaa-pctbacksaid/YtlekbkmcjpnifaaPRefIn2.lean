/-
  The document's In, by its contract.
-/
import Derived.Test.YtlekbkmcjpnifaaPRefIn
namespace Go.Proofs.Ytlekbkmcjpnifaa
open Go.RowKit

set_option maxHeartbeats 1000000 in
set_option maxRecDepth 100000 in
theorem refIn_1 (c : Int) (w : World) :
    Calls Try.prog 10 #[.int .i64 1, .int .i32 c] w fun e w' => e = .returned (.bool (inSet 1 c)) ∧ w = w' := by
  go_enter Try.func10, Try.ntmps10
  go_wp2_with (go_at_call 19; refine (one_any c _ _ (by decide)).mono ?_; rintro e w' ⟨rfl, rfl⟩)
  all_goals
    go_ret
    exact ⟨ret_bool (by simp [inSet, usr, pth, qry, ctl, *]), rfl⟩

set_option maxHeartbeats 1000000 in
set_option maxRecDepth 100000 in
theorem refIn_2 (c : Int) (w : World) :
    Calls Try.prog 10 #[.int .i64 2, .int .i32 c] w fun e w' => e = .returned (.bool (inSet 2 c)) ∧ w = w' := by
  go_enter Try.func10, Try.ntmps10
  go_wp2_with (go_at_call 19; refine (one_any c _ _ (by decide)).mono ?_; rintro e w' ⟨rfl, rfl⟩)
  all_goals
    go_ret
    exact ⟨ret_bool (by simp [inSet, usr, pth, qry, ctl, *]), rfl⟩

set_option maxHeartbeats 1000000 in
set_option maxRecDepth 100000 in
theorem refIn_3 (c : Int) (w : World) :
    Calls Try.prog 10 #[.int .i64 3, .int .i32 c] w fun e w' => e = .returned (.bool (inSet 3 c)) ∧ w = w' := by
  go_enter Try.func10, Try.ntmps10
  go_wp2_with (go_at_call 19; refine (one_any c _ _ (by decide)).mono ?_; rintro e w' ⟨rfl, rfl⟩)
  all_goals
    go_ret
    exact ⟨ret_bool (by simp [inSet, usr, pth, qry, ctl, *]), rfl⟩

set_option maxHeartbeats 1000000 in
set_option maxRecDepth 100000 in
theorem refIn_4 (c : Int) (w : World) :
    Calls Try.prog 10 #[.int .i64 4, .int .i32 c] w fun e w' => e = .returned (.bool (inSet 4 c)) ∧ w = w' := by
  go_enter Try.func10, Try.ntmps10
  go_wp2_with (go_at_call 19; refine (one_any c _ _ (by decide)).mono ?_; rintro e w' ⟨rfl, rfl⟩)
  all_goals
    go_ret
    exact ⟨ret_bool (by simp [inSet, usr, pth, qry, ctl, *] <;> (by_cases e : c = 39 <;> simp [e])), rfl⟩

set_option maxHeartbeats 1000000 in
set_option maxRecDepth 100000 in
theorem refIn_5 (c : Int) (w : World) :
    Calls Try.prog 10 #[.int .i64 5, .int .i32 c] w fun e w' => e = .returned (.bool (inSet 5 c)) ∧ w = w' := by
  go_enter Try.func10, Try.ntmps10
  go_wp2_with (go_at_call 19; refine (one_any c _ _ (by decide)).mono ?_; rintro e w' ⟨rfl, rfl⟩)
  all_goals
    go_ret
    exact ⟨ret_bool (by simp [inSet, usr, pth, qry, ctl, *]), rfl⟩

set_option maxHeartbeats 1000000 in
set_option maxRecDepth 100000 in
theorem refIn_6 (c : Int) (w : World) :
    Calls Try.prog 10 #[.int .i64 6, .int .i32 c] w fun e w' => e = .returned (.bool (inSet 6 c)) ∧ w = w' := by
  go_enter Try.func10, Try.ntmps10
  go_wp2_with (go_at_call 19; refine (one_any c _ _ (by decide)).mono ?_; rintro e w' ⟨rfl, rfl⟩)
  all_goals
    go_ret
    exact ⟨ret_bool (by simp [inSet, usr, pth, qry, ctl, *]), rfl⟩

set_option maxHeartbeats 1000000 in
set_option maxRecDepth 100000 in
theorem refIn_7 (c : Int) (w : World) :
    Calls Try.prog 10 #[.int .i64 7, .int .i32 c] w fun e w' => e = .returned (.bool (inSet 7 c)) ∧ w = w' := by
  go_enter Try.func10, Try.ntmps10
  go_wp2_with (go_at_call 19; refine (one_any c _ _ (by decide)).mono ?_; rintro e w' ⟨rfl, rfl⟩)
  all_goals
    go_ret
    exact ⟨ret_bool (by simp [inSet, usr, pth, qry, ctl, *]), rfl⟩

set_option maxHeartbeats 1000000 in
set_option maxRecDepth 100000 in
theorem refIn_none (set c : Int) (w : World) (h1 : set ≠ 1) (h2 : set ≠ 2) (h3 : set ≠ 3) (h4 : set ≠ 4) (h5 : set ≠ 5) (h6 : set ≠ 6) (h7 : set ≠ 7) :
    Calls Try.prog 10 #[.int .i64 set, .int .i32 c] w fun e w' => e = .returned (.bool (inSet set c)) ∧ w = w' := by
  have HR : Hid (inSet set c = false) := by
    show inSet set c = false
    unfold inSet
    rw [if_neg h1, if_neg h2, if_neg h3, if_neg h4, if_neg h5, if_neg h6, if_neg h7]
  have e1 : (set == 1) = false := beq_eq_false_iff_ne.2 h1
  have e2 : (set == 2) = false := beq_eq_false_iff_ne.2 h2
  have e3 : (set == 3) = false := beq_eq_false_iff_ne.2 h3
  have e4 : (set == 4) = false := beq_eq_false_iff_ne.2 h4
  have e5 : (set == 5) = false := beq_eq_false_iff_ne.2 h5
  have e6 : (set == 6) = false := beq_eq_false_iff_ne.2 h6
  have e7 : (set == 7) = false := beq_eq_false_iff_ne.2 h7
  clear h1 h2 h3 h4 h5 h6 h7
  go_enter Try.func10, Try.ntmps10
  go_wp2_with (go_at_call 19; refine (one_any c _ _ (by decide)).mono ?_; rintro e w' ⟨rfl, rfl⟩)
  all_goals
    go_ret
    exact ⟨ret_bool HR.out.symm, rfl⟩

/-- The document's In, whatever the set and the number. -/
theorem refIn_any (set c : Int) (w : World) : Calls Try.prog 10 #[.int .i64 set, .int .i32 c] w fun e w' => e = .returned (.bool (inSet set c)) ∧ w = w' := by
  by_cases h1 : set = 1; · subst h1; exact refIn_1 c w
  by_cases h2 : set = 2; · subst h2; exact refIn_2 c w
  by_cases h3 : set = 3; · subst h3; exact refIn_3 c w
  by_cases h4 : set = 4; · subst h4; exact refIn_4 c w
  by_cases h5 : set = 5; · subst h5; exact refIn_5 c w
  by_cases h6 : set = 6; · subst h6; exact refIn_6 c w
  by_cases h7 : set = 7; · subst h7; exact refIn_7 c w
  exact refIn_none set c w h1 h2 h3 h4 h5 h6 h7
theorem refIn_of {set c : Int} {b : Bool} (w : World) (h : inSet set c = b) : Calls Try.prog 10 #[.int .i64 set, .int .i32 c] w fun e w' => e = .returned (.bool b) ∧ w = w' := h ▸ refIn_any set c w
end Go.Proofs.Ytlekbkmcjpnifaa

/-
  The document's barred, Map, made of layer 5, by their contracts.
-/
import Derived.Test.YtjhppkbaidcliaaDoorKMath
import Derived.Test.YtjhppkbaidcliaaDoorRef3
namespace Go.Proofs.YtjhppkbaidcliaaDoor
open Go.RowKit

set_option maxHeartbeats 1000000 in
set_option maxRecDepth 100000 in
theorem barred_any (c : Int) (w : World) :
    Calls Tryd.prog 20 #[.int .i32 c] w fun e w' => e = .returned (.bool (decide (Barred c))) ∧ w = w' := by
  by_cases hs : scal c = true
  · obtain ⟨h0, h1, h2⟩ := (scal_iff c).1 hs
    have HS := Lib.hid hs
    clear hs
    go_enter Tryd.func20, Tryd.ntmps20
    go_wp2_with (go_at_call 29; refine (scalar_true _ _ HS.out).mono ?_; rintro e w' ⟨rfl, rfl⟩)
    all_goals
      go_ret
      refine ⟨ret_bool ?_, rfl⟩
      try simp only [beq_iff_eq, beq_eq_false_iff_ne, ne_eq] at *
      first
      | (refine (decide_eq_true ?_).symm; unfold Barred; omega)
      | (refine (decide_eq_false ?_).symm; unfold Barred; omega)
      | (apply Bool.eq_iff_iff.2; rw [decide_eq_true_eq]; simp only [decide_eq_true_eq, Bool.or_eq_true, beq_iff_eq]; unfold Barred; omega)
  · have HS := Lib.hid (Bool.eq_false_iff.2 hs)
    have HB : Hid (decide (Barred c) = true) := by
      show decide (Barred c) = true
      rw [decide_eq_true_eq]
      rw [scal_iff] at hs
      unfold Barred
      omega
    clear hs
    go_enter Tryd.func20, Tryd.ntmps20
    go_wp2_with (go_at_call 29; refine (scalar_false _ _ HS.out).mono ?_; rintro e w' ⟨rfl, rfl⟩)
    go_ret
    exact ⟨ret_bool HB.out.symm, rfl⟩

end Go.Proofs.YtjhppkbaidcliaaDoor

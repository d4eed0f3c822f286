/-
  pct.In, by its contract.
-/
import Derived.Test.YtlekbkmcjpnifaaPRune
namespace Go.Proofs.Ytlekbkmcjpnifaa
open Go.RowKit

/-- A world behind the boxing of In's number. -/
def Held (w0 : World) (c : Int) (w : World) : Prop := Below w0.heap.size w0 w ∧ w0.heap.size < w.heap.size ∧ w.cell? ⟨w0.heap.size, 0, none⟩ = some (.int .i32 c)
theorem held_new (w : World) (c : Int) : Held w c (w.alloc (.cells #[.int .i32 c] 21)) :=
  ⟨(Below.refl _ _).alloc (Nat.le_refl _) _, by simp, by simp⟩
theorem Held.below {w0 w w' : World} {c : Int} (h : Held w0 c w) (hb : Below w.heap.size w w') : Held w0 c w' :=
  ⟨h.1.trans (hb.mono h.1.size), Nat.lt_of_lt_of_le h.2.1 hb.size, (hb.cell (p := ⟨w0.heap.size, 0, none⟩) h.2.1).trans h.2.2⟩
theorem among_held (w0 : World) (s : ByteArray) (c : Int) (w : World) (h : Held w0 c w) (hs : ∀ b ∈ s.data.toList, b.toNat < 128) :
    Calls Try.prog 17 #[.string s, .pointer (some ⟨w0.heap.size, 0, none⟩)] w fun e w' => e = .returned (.bool (amid s.data.toList c)) ∧ Held w0 c w' := by
  refine (among_any s c _ w h.2.2 hs).mono ?_
  rintro e w' ⟨rfl, hb⟩
  exact ⟨rfl, h.below hb⟩

set_option maxHeartbeats 1000000 in
set_option maxRecDepth 100000 in
theorem in_1 (c : Int) (w : World) :
    Calls Try.prog 9 #[.int .i64 1, .int .i32 c] w (AmidPost (inSet 1 c) w) := by
  have H := Lib.hid (held_new w c)
  go_enter Try.func9, Try.ntmps9
  go_wp2_with (
     go_at_call 17
     refine (among_held w _ c _ H.out (by decide)).mono ?_
     rintro e w1 ⟨rfl, H1⟩
     have hc := H1.2.2
     have H := Lib.hid H1
     clear H1)
  all_goals
    go_ret
    exact ⟨ret_bool (by simp [inSet, usr, pth, qry, ctl, *]), H.out.1⟩

set_option maxHeartbeats 1000000 in
set_option maxRecDepth 100000 in
theorem in_3 (c : Int) (w : World) :
    Calls Try.prog 9 #[.int .i64 3, .int .i32 c] w (AmidPost (inSet 3 c) w) := by
  have H := Lib.hid (held_new w c)
  go_enter Try.func9, Try.ntmps9
  go_wp2_with (
     go_at_call 17
     refine (among_held w _ c _ H.out (by decide)).mono ?_
     rintro e w1 ⟨rfl, H1⟩
     have hc := H1.2.2
     have H := Lib.hid H1
     clear H1)
  all_goals
    go_ret
    exact ⟨ret_bool (by simp [inSet, usr, pth, qry, ctl, *]), H.out.1⟩

set_option maxHeartbeats 1000000 in
set_option maxRecDepth 100000 in
theorem in_5 (c : Int) (w : World) :
    Calls Try.prog 9 #[.int .i64 5, .int .i32 c] w (AmidPost (inSet 5 c) w) := by
  have H := Lib.hid (held_new w c)
  go_enter Try.func9, Try.ntmps9
  go_wp2_with (
     go_at_call 17
     refine (among_held w _ c _ H.out (by decide)).mono ?_
     rintro e w1 ⟨rfl, H1⟩
     have hc := H1.2.2
     have H := Lib.hid H1
     clear H1)
  all_goals
    go_ret
    exact ⟨ret_bool (by simp [inSet, usr, pth, qry, ctl, *]), H.out.1⟩

set_option maxHeartbeats 1000000 in
set_option maxRecDepth 100000 in
theorem in_6 (c : Int) (w : World) :
    Calls Try.prog 9 #[.int .i64 6, .int .i32 c] w (AmidPost (inSet 6 c) w) := by
  have H := Lib.hid (held_new w c)
  go_enter Try.func9, Try.ntmps9
  go_wp2_with (
     go_at_call 17
     refine (among_held w _ c _ H.out (by decide)).mono ?_
     rintro e w1 ⟨rfl, H1⟩
     have hc := H1.2.2
     have H := Lib.hid H1
     clear H1)
  all_goals
    go_ret
    exact ⟨ret_bool (by simp [inSet, usr, pth, qry, ctl, *]), H.out.1⟩

set_option maxHeartbeats 1000000 in
set_option maxRecDepth 100000 in
theorem in_7 (c : Int) (w : World) :
    Calls Try.prog 9 #[.int .i64 7, .int .i32 c] w (AmidPost (inSet 7 c) w) := by
  have H := Lib.hid (held_new w c)
  go_enter Try.func9, Try.ntmps9
  go_wp2_with (
     go_at_call 17
     refine (among_held w _ c _ H.out (by decide)).mono ?_
     rintro e w1 ⟨rfl, H1⟩
     have hc := H1.2.2
     have H := Lib.hid H1
     clear H1)
  all_goals
    go_ret
    exact ⟨ret_bool (by simp [inSet, usr, pth, qry, ctl, *]), H.out.1⟩

set_option maxHeartbeats 1000000 in
set_option maxRecDepth 100000 in
theorem in_4 (c : Int) (w : World) :
    Calls Try.prog 9 #[.int .i64 4, .int .i32 c] w (AmidPost (inSet 4 c) w) := by
  by_cases h39 : c = 39
  · subst h39
    have H := Lib.hid (held_new w 39)
    go_enter Try.func9, Try.ntmps9
    go_wp2
    go_ret
    exact ⟨ret_bool (by decide), H.out.1⟩
  have HE : Hid (decide (c = 39) = false) := decide_eq_false h39
  have e39 : (c == 39) = false := beq_eq_false_iff_ne.2 h39
  clear h39
  have H := Lib.hid (held_new w c)
  go_enter Try.func9, Try.ntmps9
  go_wp2_with (first
    | (go_at_call 17
       refine (among_held w _ c _ H.out (by decide)).mono ?_
       rintro e w1 ⟨rfl, H1⟩
       have hc := H1.2.2
       have H := Lib.hid H1
       clear H1)
    | (go_at_call 9
       refine (in_3 c _).mono ?_
       rintro e w1 ⟨rfl, hb⟩
       have H := Lib.hid (H.out.below hb)
       clear hb))
  all_goals
    go_ret
    exact ⟨ret_bool (by have := HE.out; simp [inSet, usr, pth, qry, ctl, *]), H.out.1⟩

set_option maxHeartbeats 1000000 in
set_option maxRecDepth 100000 in
theorem in_2 (c : Int) (w : World) :
    Calls Try.prog 9 #[.int .i64 2, .int .i32 c] w (AmidPost (inSet 2 c) w) := by
  have H := Lib.hid (held_new w c)
  go_enter Try.func9, Try.ntmps9
  go_wp2_with (first
    | (go_at_call 17
       refine (among_held w _ c _ H.out (by decide)).mono ?_
       rintro e w1 ⟨rfl, H1⟩
       have hc := H1.2.2
       have H := Lib.hid H1
       clear H1)
    | (go_at_call 9
       refine (in_1 c _).mono ?_
       rintro e w1 ⟨rfl, hb⟩
       have H := Lib.hid (H.out.below hb)
       clear hb))
  all_goals
    go_ret
    exact ⟨ret_bool (by simp [inSet, usr, pth, qry, ctl, *]), H.out.1⟩

set_option maxHeartbeats 1000000 in
set_option maxRecDepth 100000 in
theorem in_none (set c : Int) (w : World) (h1 : set ≠ 1) (h2 : set ≠ 2) (h3 : set ≠ 3) (h4 : set ≠ 4) (h5 : set ≠ 5) (h6 : set ≠ 6) (h7 : set ≠ 7) :
    Calls Try.prog 9 #[.int .i64 set, .int .i32 c] w (AmidPost (inSet set c) w) := by
  have H := Lib.hid (held_new w c)
  have HR : Hid (inSet set c = false) := by
    show inSet set c = false
    unfold inSet
    rw [if_neg h1, if_neg h2, if_neg h3, if_neg h4, if_neg h5, if_neg h6, if_neg h7]
  have e1 : (set == 1) = false := beq_eq_false_iff_ne.2 h1
  have e2 : (set == 2) = false := beq_eq_false_iff_ne.2 h2
  have e3 : (set == 3) = false := beq_eq_false_iff_ne.2 h3
  have e4 : (set == 4) = false := beq_eq_false_iff_ne.2 h4
  have e5 : (set == 5) = false := beq_eq_false_iff_ne.2 h5
  have e6 : (set == 6) = false := beq_eq_false_iff_ne.2 h6
  have e7 : (set == 7) = false := beq_eq_false_iff_ne.2 h7
  clear h1 h2 h3 h4 h5 h6 h7
  go_enter Try.func9, Try.ntmps9
  go_wp2
  go_ret
  exact ⟨ret_bool HR.out.symm, H.out.1⟩

/-- In, whatever the set and the number. -/
theorem in_any (set c : Int) (w : World) : Calls Try.prog 9 #[.int .i64 set, .int .i32 c] w (AmidPost (inSet set c) w) := by
  by_cases h1 : set = 1; · subst h1; exact in_1 c w
  by_cases h2 : set = 2; · subst h2; exact in_2 c w
  by_cases h3 : set = 3; · subst h3; exact in_3 c w
  by_cases h4 : set = 4; · subst h4; exact in_4 c w
  by_cases h5 : set = 5; · subst h5; exact in_5 c w
  by_cases h6 : set = 6; · subst h6; exact in_6 c w
  by_cases h7 : set = 7; · subst h7; exact in_7 c w
  exact in_none set c w h1 h2 h3 h4 h5 h6 h7
theorem in_of {set c : Int} {b : Bool} (w : World) (h : inSet set c = b) : Calls Try.prog 9 #[.int .i64 set, .int .i32 c] w fun e w' => e = .returned (.bool b) ∧ Below w.heap.size w w' := h ▸ in_any set c w
end Go.Proofs.Ytlekbkmcjpnifaa

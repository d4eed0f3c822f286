/-
  The document's May and Small of layer 10, by their contracts.
-/
import Derived.Test.YtcndcdkcbkjbaaaDoorSchRef
namespace Go.Proofs.YtcndcdkcbkjbaaaDoor
open Go.RowKit

theorem at10 {s : ByteArray} {k : Nat} (h : k < s.size) : s.data.toList[k]'(by rw [len10]; exact h) = s[k]'h := rfl
theorem may10_at {s : ByteArray} {k : Nat} (h : k < s.size) : may10 (s.data.toList.take (k + 1)) = if k = 0 then let10 (s[k]'h) else (may10 (s.data.toList.take k) && mor10 (s[k]'h)) := by
  rw [may10_take (by rw [len10]; exact h), at10 h]
theorem mor10_iff {c : UInt8} (h : let10 c = false) : mor10 c = true ↔ (48 ≤ c.toNat ∧ c.toNat ≤ 57) ∨ c.toNat = 43 ∨ c.toNat = 45 ∨ c.toNat = 46 := by
  unfold mor10 fig10
  rw [h]
  simp only [Bool.false_or, Bool.or_eq_true, decide_eq_true_eq]
  omega

theorem cls10 {c : UInt8} (hL : let10 c = false) : (mor10 c = true ∧ decide ((48 : Int) ≤ (c.toNat : Int)) = true ∧ decide ((c.toNat : Int) ≤ 57) = true) ∨ (mor10 c = true ∧ decide ((48 : Int) ≤ (c.toNat : Int)) = false ∧ ((c.toNat : Int) == 43) = true) ∨ (mor10 c = true ∧ decide ((48 : Int) ≤ (c.toNat : Int)) = false ∧ ((c.toNat : Int) == 43) = false ∧ ((c.toNat : Int) == 45) = true) ∨ (mor10 c = true ∧ decide ((48 : Int) ≤ (c.toNat : Int)) = false ∧ ((c.toNat : Int) == 43) = false ∧ ((c.toNat : Int) == 45) = false ∧ ((c.toNat : Int) == 46) = true) ∨ (mor10 c = false ∧ decide ((48 : Int) ≤ (c.toNat : Int)) = false ∧ ((c.toNat : Int) == 43) = false ∧ ((c.toNat : Int) == 45) = false ∧ ((c.toNat : Int) == 46) = false) ∨ (mor10 c = false ∧ decide ((48 : Int) ≤ (c.toNat : Int)) = true ∧ decide ((c.toNat : Int) ≤ 57) = false ∧ ((c.toNat : Int) == 43) = false ∧ ((c.toNat : Int) == 45) = false ∧ ((c.toNat : Int) == 46) = false) := by
  have hI := mor10_iff hL
  have h6 : ((48 ≤ c.toNat ∧ c.toNat ≤ 57) ∨ (c.toNat = 43) ∨ (c.toNat = 45) ∨ (c.toNat = 46) ∨ (c.toNat < 48 ∧ c.toNat ≠ 43 ∧ c.toNat ≠ 45 ∧ c.toNat ≠ 46) ∨ (57 < c.toNat)) := by omega
  rcases h6 with h | h | h | h | h | h
  · exact .inl ⟨hI.2 (by omega), decide_eq_true (by omega), decide_eq_true (by omega)⟩
  · exact .inr (.inl ⟨hI.2 (by omega), decide_eq_false (by omega), beq_iff_eq.2 (by omega)⟩)
  · exact .inr (.inr (.inl ⟨hI.2 (by omega), decide_eq_false (by omega), beq_eq_false_iff_ne.2 (by omega), beq_iff_eq.2 (by omega)⟩))
  · exact .inr (.inr (.inr (.inl ⟨hI.2 (by omega), decide_eq_false (by omega), beq_eq_false_iff_ne.2 (by omega), beq_eq_false_iff_ne.2 (by omega), beq_iff_eq.2 (by omega)⟩)))
  · exact .inr (.inr (.inr (.inr (.inl ⟨Bool.eq_false_iff.2 (fun e => by have := hI.1 e; omega), decide_eq_false (by omega), beq_eq_false_iff_ne.2 (by omega), beq_eq_false_iff_ne.2 (by omega), beq_eq_false_iff_ne.2 (by omega)⟩))))
  · exact .inr (.inr (.inr (.inr (.inr (⟨Bool.eq_false_iff.2 (fun e => by have := hI.1 e; omega), decide_eq_true (by omega), decide_eq_false (by omega), beq_eq_false_iff_ne.2 (by omega), beq_eq_false_iff_ne.2 (by omega), beq_eq_false_iff_ne.2 (by omega)⟩)))))
theorem let10_cls {c : UInt8} (hL : let10 c = true) : decide ((48 : Int) ≤ (c.toNat : Int)) = true ∧ decide ((c.toNat : Int) ≤ 57) = false ∧ ((c.toNat : Int) == 43) = false ∧ ((c.toNat : Int) == 45) = false ∧ ((c.toNat : Int) == 46) = false := by
  have h : 65 ≤ c.toNat := by
    unfold let10 at hL
    simp only [Bool.or_eq_true, decide_eq_true_eq] at hL
    omega
  exact ⟨decide_eq_true (by omega), decide_eq_false (by omega), beq_eq_false_iff_ne.2 (by omega), beq_eq_false_iff_ne.2 (by omega), beq_eq_false_iff_ne.2 (by omega)⟩

set_option maxHeartbeats 1000000 in
set_option maxRecDepth 100000 in
theorem refMay_any (s : ByteArray) (w : World) (hs : s.size ≤ 100000) : Calls Tryd.prog 14 #[.string s] w (Bool10 (may10 s.data.toList) w) := by
  go_enter Tryd.func14, Tryd.ntmps14
  go_wp2
  go_loop [3] (fun i => ∃ k : Nat, k ≤ s.size ∧ i = .int .i64 k ∧ (k = 0 ∨ may10 (s.data.toList.take k) = true)) (fun i => s.size - (intOf i).toNat)
  case atStart => exact ⟨0, Nat.zero_le _, rfl, .inl rfl⟩
  case round =>
    obtain ⟨k, hk, rfl, hp⟩ := hrel
    have HP := Lib.hid hp
    clear hp
    by_cases hlt : k < s.size
    · have hu := (s[k]'hlt).toNat_lt
      cases hL : let10 (s[k]'hlt) with
      | true =>
        have HC := Lib.hid (letter_is hL)
        have HN : Hid (may10 (s.data.toList.take (k + 1)) = true) := by
          show may10 (s.data.toList.take (k + 1)) = true
          rw [may10_at hlt]
          split
          · exact hL
          · rename_i h0
            rw [let10_mor hL, Bool.and_true]
            exact HP.out.resolve_left h0
        obtain ⟨d1, d2, e1, e2, e3⟩ := let10_cls hL
        clear hL
        by_cases h0 : 0 < k
        all_goals
          go_wp2_with (go_at_call 27; (with_reducible refine (HC.out _).mono ?_); rintro e w' ⟨rfl, rfl⟩)
          go_round
          case rel => exact ⟨k + 1, by omega, by go_num, .inr HN.out⟩
          case measure => simp [intOf]; omega
      | false =>
        have HC := Lib.hid (letter_is hL)
        by_cases h0 : k = 0
        · subst h0
          have HN : Hid (may10 s.data.toList = false) := may10_begin (k := 0) (by rw [may10_at hlt, if_pos rfl]; exact hL)
          clear hL
          go_wp2_with (go_at_call 27; (with_reducible refine (HC.out _).mono ?_); rintro e w' ⟨rfl, rfl⟩)
          go_ret
          exact ⟨ret_bool HN.out.symm, rfl⟩
        · have hp := HP.out.resolve_left h0
          have hkp : 0 < k := by omega
          rcases cls10 hL with ⟨hm, d1, d2⟩ | ⟨hm, d1, e1⟩ | ⟨hm, d1, e1, e2⟩ | ⟨hm, d1, e1, e2, e3⟩ | ⟨hm, d1, e1, e2, e3⟩ | ⟨hm, d1, d2, e1, e2, e3⟩
          iterate 4
            · have HN : Hid (may10 (s.data.toList.take (k + 1)) = true) := by
                show may10 (s.data.toList.take (k + 1)) = true
                rw [may10_at hlt, if_neg h0, hm, hp]; rfl
              clear hL hm hp h0
              go_wp2_with (go_at_call 27; (with_reducible refine (HC.out _).mono ?_); rintro e w' ⟨rfl, rfl⟩)
              go_round
              case rel => exact ⟨k + 1, by omega, by go_num, .inr HN.out⟩
              case measure => simp [intOf]; omega
          iterate 2
            · have HN : Hid (may10 s.data.toList = false) := may10_begin (k := k) (by rw [may10_at hlt, if_neg h0, hm, Bool.and_false])
              clear hL hm hp h0
              go_wp2_with (go_at_call 27; (with_reducible refine (HC.out _).mono ?_); rintro e w' ⟨rfl, rfl⟩)
              go_ret
              exact ⟨ret_bool HN.out.symm, rfl⟩
    · obtain rfl : k = s.size := by omega
      have HE : Hid (decide ((0 : Int) < (s.size : Int)) = may10 s.data.toList) := by
        show decide ((0 : Int) < (s.size : Int)) = may10 s.data.toList
        rcases HP.out with h | h
        · rw [List.eq_nil_of_length_eq_zero ((len10 s).trans h), h]; rfl
        · rw [List.take_of_length_le (by rw [len10]; exact Nat.le_refl _)] at h
          have := may10_full h
          have h1 : s.data.toList.length ≠ 0 := fun e => this (List.eq_nil_of_length_eq_zero e)
          rw [len10] at h1
          rw [h]
          exact decide_eq_true (by omega)
      go_wp2
      go_ret
      exact ⟨ret_bool (by rw [← HE.out]; try simp), rfl⟩
theorem may_is {s : ByteArray} {b : Bool} (h : may10 s.data.toList = b) (hs : s.size ≤ 100000) (w : World) : Calls Tryd.prog 14 #[.string s] w fun e w' => e = .returned (.bool b) ∧ w = w' := h ▸ refMay_any s w hs

theorem low10_val (c : UInt8) : ((low10 c).toNat : Int) = if 65 ≤ c.toNat ∧ c.toNat ≤ 90 then (c.toNat : Int) + 32 else c.toNat := by
  unfold low10
  split
  · rename_i h
    have : (c + 32).toNat = c.toNat + 32 := by
      rw [UInt8.toNat_add]
      show (c.toNat + 32) % 256 = _
      omega
    rw [this]; rfl
  · rfl
end Go.Proofs.YtcndcdkcbkjbaaaDoor

/-
  The document's Port of layer 10, by its contract.
-/
import Derived.Test.YtcndcdkcbkjbaaaDoorSchMay
namespace Go.Proofs.YtcndcdkcbkjbaaaDoor
open Go.RowKit

def Port10 (o : Int × Nat) (w : World) (e : Ending) (w' : World) : Prop := e = .returned (.tuple #[.int .i64 o.1, .int .i64 (o.2 : Int)]) ∧ w = w'
theorem fig10_take {s : ByteArray} {k : Nat} (h : k < s.size) (hp : (s.data.toList.take k).all fig10 = true) (hc : fig10 (s[k]'h) = true) : (s.data.toList.take (k + 1)).all fig10 = true := by
  rw [List.take_succ_eq_append_getElem (by rw [len10]; exact h), List.all_append, hp, Bool.true_and]
  show (fig10 (s[k]'h) && true) = true
  rw [hc]; rfl
theorem fig10_bad {s : ByteArray} {k : Nat} (h : k < s.size) (hc : fig10 (s[k]'h) = false) : s.data.toList.all fig10 = false := by
  rw [List.all_eq_false]
  exact ⟨s[k]'h, List.getElem_mem (by rw [len10]; exact h), by rw [hc]; simp⟩
theorem val10_at {s : ByteArray} {k : Nat} (h : k < s.size) : val10 (s.data.toList.take (k + 1)) = 10 * val10 (s.data.toList.take k) + ((s[k]'h).toNat - 48) := val10_take (by rw [len10]; exact h)

set_option maxHeartbeats 2000000 in
set_option maxRecDepth 100000 in
theorem refPort_any (s t : ByteArray) (w : World) (hs : s.size ≤ 100000) : Calls Tryd.prog 18 #[.string s, .string t] w (Port10 (port10 s.data.toList t.data.toList) w) := by
  obtain ⟨o, ho⟩ : ∃ o, port10 s.data.toList t.data.toList = o := ⟨_, rfl⟩
  rw [ho]
  by_cases h0 : s.size = 0
  · have HN : Hid (o = (-1, 0)) := by
      show o = _
      rw [← ho, List.eq_nil_of_length_eq_zero ((len10 s).trans h0)]; rfl
    have hz : ((s.size : Int) == 0) = true := by rw [h0]; rfl
    clear ho h0
    go_enter Tryd.func18, Tryd.ntmps18
    go_wp2
    go_ret2
    exact ⟨by rw [HN.out]; rfl, rfl⟩
  · have hne : s.data.toList ≠ [] := fun e => h0 (by have := len10 s; rw [e] at this; exact this.symm)
    have HO : Hid (o = (if s.data.toList.all fig10 = false then (0, 4) else if 65535 < val10 s.data.toList then (0, 4) else if (val10 s.data.toList : Int) = def10 t.data.toList then (-1, 0) else ((val10 s.data.toList : Int), 0) : Int × Nat)) := by
      show o = _
      rw [← ho]
      unfold port10
      rw [if_neg hne]
    have hz : ((s.size : Int) == 0) = false := beq_eq_false_iff_ne.2 (by omega)
    clear ho h0 hne
    go_enter Tryd.func18, Tryd.ntmps18
    go_wp2
    go_loop [6, 7] (fun n i => ∃ k m : Nat, k ≤ s.size ∧ i = .int .i64 k ∧ n = .int .i64 m ∧ m = Nat.min (val10 (s.data.toList.take k)) 100000 ∧ (s.data.toList.take k).all fig10 = true) (fun _ i => s.size - (intOf i).toNat)
    case atStart => exact ⟨0, 0, Nat.zero_le _, rfl, rfl, rfl, rfl⟩
    case round =>
      obtain ⟨k, m, hk, rfl, rfl, hm, hp⟩ := hrel
      have HP := Lib.hid hp
      have hm1 : m ≤ 100000 := by rw [hm]; exact Nat.min_le_right _ _
      have HM := Lib.hid hm
      clear hp hm
      by_cases hlt : k < s.size
      · have hu := (s[k]'hlt).toNat_lt
        cases hf : fig10 (s[k]'hlt) with
        | false =>
          have HN : Hid (o = (0, 4)) := by
            show o = _
            rw [HO.out, if_pos (fig10_bad hlt hf)]
          have h2 : (s[k]'hlt).toNat < 48 ∨ 57 < (s[k]'hlt).toNat := by
            unfold fig10 at hf
            rw [decide_eq_false_iff_not] at hf
            omega
          clear hf
          rcases h2 with h2 | h2
          · have d1 : decide (((s[k]'hlt).toNat : Int) < 48) = true := decide_eq_true (by omega)
            go_wp2
            go_ret2
            exact ⟨by rw [HN.out]; rfl, rfl⟩
          · have d1 : decide (((s[k]'hlt).toNat : Int) < 48) = false := decide_eq_false (by omega)
            have d2 : decide ((57 : Int) < ((s[k]'hlt).toNat : Int)) = true := decide_eq_true (by omega)
            go_wp2
            go_ret2
            exact ⟨by rw [HN.out]; rfl, rfl⟩
        | true =>
          have HF := Lib.hid (fig10_take hlt HP.out hf)
          have HV : Hid (Nat.min (val10 (s.data.toList.take (k + 1))) 100000 = Nat.min (10 * m + ((s[k]'hlt).toNat - 48)) 100000) := by
            show _ = _
            rw [val10_at hlt, HM.out, val10_min]
          have h2 : 48 ≤ (s[k]'hlt).toNat ∧ (s[k]'hlt).toNat ≤ 57 := by
            unfold fig10 at hf
            exact of_decide_eq_true hf
          have d1 : decide (((s[k]'hlt).toNat : Int) < 48) = false := decide_eq_false (by omega)
          have d2 : decide ((57 : Int) < ((s[k]'hlt).toNat : Int)) = false := decide_eq_false (by omega)
          obtain ⟨h3, h4⟩ := h2
          clear hf
          by_cases hc : 10 * m + ((s[k]'hlt).toNat - 48) ≤ 100000
          · have HV2 : Hid (10 * m + ((s[k]'hlt).toNat - 48) = Nat.min (val10 (s.data.toList.take (k + 1))) 100000) := by
              show _ = _
              rw [HV.out]; exact (Nat.min_eq_left hc).symm
            go_wp2
            all_goals first
              | (exfalso; omega)
              | (go_round
                 case rel => exact ⟨k + 1, 10 * m + ((s[k]'hlt).toNat - 48), by omega, by go_num, by first | (congr 1; omega) | (congr 1; split <;> omega), HV2.out, HF.out⟩
                 case measure => simp [intOf]; omega)
          · have HV2 : Hid (100000 = Nat.min (val10 (s.data.toList.take (k + 1))) 100000) := by
              show _ = _
              rw [HV.out]; exact (Nat.min_eq_right (by omega)).symm
            go_wp2
            all_goals first
              | (exfalso; omega)
              | (go_round
                 case rel => exact ⟨k + 1, 100000, by omega, by go_num, by first | (congr 1; omega) | (congr 1; split <;> omega), HV2.out, HF.out⟩
                 case measure => simp [intOf]; omega)
      · have ht : s.data.toList.take k = s.data.toList := List.take_of_length_le (by rw [len10]; omega)
        have hpA : s.data.toList.all fig10 = true := by rw [← ht]; exact HP.out
        have hmA : m = Nat.min (val10 s.data.toList) 100000 := by rw [HM.out, ht]
        have hO := HO.out
        rw [if_neg (by rw [hpA]; simp)] at hO
        by_cases h6 : 65535 < m
        · have HN : Hid (o = (0, 4)) := by
            show o = _
            rw [hO, if_pos (by rw [hmA] at h6; exact Nat.lt_of_lt_of_le h6 (Nat.min_le_left _ _))]
          clear hO hmA hpA ht
          go_wp2
          go_ret2
          exact ⟨by rw [HN.out]; rfl, rfl⟩
        · have hmv : m = val10 s.data.toList := by
            rw [hmA] at h6
            rw [hmA]
            simp only [Nat.min_def] at h6 ⊢
            split at h6
            · rw [if_pos (by assumption)]
            · omega
          rw [if_neg (by rw [← hmv]; exact h6), ← hmv] at hO
          have HD := Lib.hid (refDefault_any t)
          obtain ⟨D, hD⟩ : ∃ D, def10 t.data.toList = D := ⟨_, rfl⟩
          rw [hD] at hO HD
          clear hmA hpA ht hmv hD
          by_cases he : (m : Int) = D
          · have HN : Hid (o = (-1, 0)) := by show o = _; rw [hO, if_pos he]
            have hb : ((m : Int) == D) = true := beq_iff_eq.2 he
            clear hO he
            go_wp2_with (go_at_call 12; (with_reducible refine (HD.out _).mono ?_); rintro e w' ⟨rfl, rfl⟩)
            go_ret2
            exact ⟨by rw [HN.out]; rfl, rfl⟩
          · have HN : Hid (o = ((m : Int), 0)) := by show o = _; rw [hO, if_neg he]
            have hb : ((m : Int) == D) = false := beq_eq_false_iff_ne.2 he
            clear hO he
            go_wp2_with (go_at_call 12; (with_reducible refine (HD.out _).mono ?_); rintro e w' ⟨rfl, rfl⟩)
            go_ret2
            exact ⟨by rw [HN.out]; rfl, rfl⟩
end Go.Proofs.YtcndcdkcbkjbaaaDoor

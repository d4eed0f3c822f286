/-
  The program's Port of layer 10, its closure, and every at it (written by mkschg.py).
-/
import Derived.Test.YtcndcdkcbkjbaaaDoorSchGSmall
import Derived.Test.YtcndcdkcbkjbaaaDoorSchCon
import Derived.Test.YtcndcdkcbkjbaaaDoorFSmall
import Derived.Deep.RegionHeld3
namespace Go.Proofs.YtcndcdkcbkjbaaaDoor
open Go.RowKit

theorem min10 (v d : Nat) : Nat.min (10 * Nat.min v 65536 + d) 65536 = Nat.min (10 * v + d) 65536 := by
  by_cases h : v ≤ 65536
  · rw [show Nat.min v 65536 = v from Nat.min_eq_left h]
  · rw [show Nat.min v 65536 = 65536 from Nat.min_eq_right (by omega), show Nat.min (10 * 65536 + d) 65536 = 65536 from Nat.min_eq_right (by omega), show Nat.min (10 * v + d) 65536 = 65536 from Nat.min_eq_right (by omega)]
set_option maxHeartbeats 1000000 in
theorem port1_bad (w0 : World) (g m : Nat) (c : UInt8) (w : World) (h : Box10 w0 g (.int .i64 (m : Int)) 3 w) (hF : fig10 c = false) :
    Calls Tryd.prog 30 #[.int .u8 (c.toNat : Int), .pointer (some ⟨g, 0, none⟩)] w fun e w' => e = .returned (.bool false) ∧ Box10 w0 g (.int .i64 (m : Int)) 3 w' := by
  have HC := Lib.hid (isFigure_is hF)
  have HB := Lib.hid h
  clear h hF
  go_enter Tryd.func30, Tryd.ntmps30
  go_wp2_with (go_at_call 25; (with_reducible refine (HC.out _).mono ?_); rintro e w' ⟨rfl, rfl⟩)
  go_ret
  exact ⟨rfl, HB.out⟩
set_option maxHeartbeats 2000000 in
theorem port1_ok (w0 : World) (g m m2 : Nat) (c : UInt8) (w : World) (h : Box10 w0 g (.int .i64 (m : Int)) 3 w) (hF : fig10 c = true) (hm : m ≤ 65536) (h2 : Nat.min (10 * m + (c.toNat - 48)) 65536 = m2) :
    Calls Tryd.prog 30 #[.int .u8 (c.toNat : Int), .pointer (some ⟨g, 0, none⟩)] w fun e w' => e = .returned (.bool true) ∧ Box10 w0 g (.int .i64 (m2 : Int)) 3 w' := by
  have HC := Lib.hid (isFigure_is hF)
  obtain ⟨hc, hf⟩ := h.cell
  have HB := Lib.hid h
  have hF2 : 48 ≤ c.toNat ∧ c.toNat ≤ 57 := by unfold fig10 at hF; exact of_decide_eq_true hF
  obtain ⟨hF3, hF4⟩ := hF2
  have hu := c.toNat_lt
  clear h hF
  by_cases hle : 10 * m + (c.toNat - 48) ≤ 65536
  · have h3 : m2 = 10 * m + (c.toNat - 48) := by rw [← h2]; exact Nat.min_eq_left hle
    clear h2
    go_enter Tryd.func30, Tryd.ntmps30
    go_wp2_with (go_at_call 25; (with_reducible refine (HC.out _).mono ?_); rintro e w' ⟨rfl, rfl⟩)
    all_goals first
      | (exfalso; omega)
      | (go_ret
         exact ⟨rfl, HB.out.put2 (by first | rfl | (congr 1; omega) | (congr 1; split <;> omega))⟩)
  · have h3 : m2 = 65536 := by rw [← h2]; exact Nat.min_eq_right (by omega)
    clear h2
    go_enter Tryd.func30, Tryd.ntmps30
    go_wp2_with (go_at_call 25; (with_reducible refine (HC.out _).mono ?_); rintro e w' ⟨rfl, rfl⟩)
    all_goals first
      | (exfalso; omega)
      | (go_ret
         exact ⟨rfl, HB.out.put2 (by first | rfl | (congr 1; omega) | (congr 1; split <;> omega))⟩)

set_option maxHeartbeats 2000000 in
set_option maxRecDepth 100000 in
theorem every_port (w0 : World) (g : Nat) (s : ByteArray) (w : World) (hs : s.size ≤ 100000) (h : Box10 w0 g (.int .i64 0) 3 w) :
    Calls Tryd.prog 26 #[.string s, .func (.func 30) #[] #[.pointer (some ⟨g, 0, none⟩)]] w fun e w' => ∃ (r : Bool) (m : Nat), e = .returned (.bool r) ∧ s.data.toList.all fig10 = r ∧ (r = true → m = Nat.min (val10 s.data.toList) 65536) ∧ Box10 w0 g (.int .i64 (m : Int)) 3 w' := by
  have HX := Lib.hid h
  clear h
  go_enter Tryd.func26, Tryd.ntmps26
  go_wp2
  go_loopw [8] (fun i wr => ∃ k m : Nat, k ≤ s.size ∧ i = .int .i64 k ∧ Box10 w0 g (.int .i64 (m : Int)) 3 wr ∧ m = Nat.min (val10 (s.data.toList.take k)) 65536 ∧ (s.data.toList.take k).all fig10 = true) (fun i _ => s.size - (intOf i).toNat)
  case atStart => exact ⟨0, 0, Nat.zero_le _, rfl, HX.out, rfl, rfl⟩
  case round =>
    obtain ⟨k, m, hk, rfl, hb, hm, hp⟩ := hrel
    have HP := Lib.hid hp
    have HM := Lib.hid hm
    have HB := Lib.hid hb
    have hm1 : m ≤ 65536 := by rw [hm]; exact Nat.min_le_right _ _
    clear hp hb hm
    by_cases hlt : k < s.size
    · have hu := (s[k]'hlt).toNat_lt
      cases hf : fig10 (s[k]'hlt) with
      | false =>
        have HN := Lib.hid (fig10_bad hlt hf)
        have HC := Lib.hid (port1_bad w0 g m (s[k]'hlt) wr HB.out hf)
        clear hf
        go_wp2_with (go_at_call 30; refine HC.out.mono ?_; rintro e w' ⟨rfl, hb⟩)
        go_ret
        exact ⟨false, m, rfl, HN.out, (fun e => by cases e), hb⟩
      | true =>
        have HF := Lib.hid (fig10_take hlt HP.out hf)
        have HV : Hid (Nat.min (10 * m + ((s[k]'hlt).toNat - 48)) 65536 = Nat.min (val10 (s.data.toList.take (k + 1))) 65536) := by
          show _ = _
          rw [val10_at hlt, HM.out, min10]
        have HC := Lib.hid (port1_ok w0 g m _ (s[k]'hlt) wr HB.out hf hm1 HV.out)
        clear hf
        go_wp2_with (go_at_call 30; refine HC.out.mono ?_; rintro e w' ⟨rfl, hb⟩)
        go_roundw
        case rel => exact ⟨k + 1, _, by omega, by go_num, hb, rfl, HF.out⟩
        case measure => simp [intOf]; omega
    · have ht : s.data.toList.take k = s.data.toList := List.take_of_length_le (by rw [len10]; omega)
      have HA : Hid (s.data.toList.all fig10 = true) := by show _ = _; rw [← ht]; exact HP.out
      have HV : Hid (m = Nat.min (val10 s.data.toList) 65536) := by show _ = _; rw [HM.out, ht]
      clear ht
      go_wp2
      go_ret
      exact ⟨true, m, rfl, HA.out, fun _ => HV.out, HB.out⟩

theorem wrap10_any (w0 w : World) (h : Below w0.heap.size w0 w) : Calls Tryd.prog 31 #[.string ⟨#[115, 99, 104, 101, 109, 101]⟩, .iface 33 (.int .i64 4)] w fun e w' => ∃ b, e = .returned (.iface 61 (.pointer (some ⟨b, 0, none⟩))) ∧ (∃ cs, Chain w' cs (some 4) (.iface 61 (.pointer (some ⟨b, 0, none⟩)))) ∧ Below w0.heap.size w0 w' := by
  refine (wrap_held _ _ _ _).mono ?_
  rintro e w' ⟨rfl, rfl⟩
  exact ⟨_, rfl, ⟨_, (show Chain w [] (some 4) (.iface 33 (.int .i64 4)) from rfl).lay _⟩, h.trans ((Below.refl _ _).alloc (by exact h.size) _)⟩

set_option maxHeartbeats 2000000 in
set_option maxRecDepth 100000 in
theorem sport_any (s t : ByteArray) (w : World) (hs : s.size ≤ 100000) : Calls Tryd.prog 17 #[.string s, .string t] w (PortC10 (port10 s.data.toList t.data.toList) w) := by
  obtain ⟨o, ho⟩ : ∃ o, port10 s.data.toList t.data.toList = o := ⟨_, rfl⟩
  rw [ho]
  by_cases h0 : s = ⟨#[]⟩
  · subst h0
    obtain rfl : o = (-1, 0) := ho.symm
    clear ho
    go_enter Tryd.func17, Tryd.ntmps17
    go_wp2
    go_ret2
    exact ⟨rfl, Below.refl _ _⟩
  · have hne : s.data.toList ≠ [] := fun e => h0 (ByteArray.ext (Array.toList_inj.1 e))
    have he : (s.toList == []) = false := by rw [beq_eq_false_iff_ne, ByteArray.toList_eq]; exact hne
    have HO : Hid (o = (if s.data.toList.all fig10 = false then (0, 4) else if 65535 < val10 s.data.toList then (0, 4) else if (val10 s.data.toList : Int) = def10 t.data.toList then (-1, 0) else ((val10 s.data.toList : Int), 0) : Int × Nat)) := by
      show o = _
      rw [← ho]
      unfold port10
      rw [if_neg hne]
    have HC := Lib.hid (every_port w w.heap.size s _ hs (Box10.new w (.int .i64 0) 3))
    have HD := Lib.hid (default_any t)
    clear ho h0 hne
    go_enter Tryd.func17, Tryd.ntmps17
    go_wp2_with (first
      | (go_at_call 26
         refine HC.out.mono ?_
         rintro e w' ⟨r, m, rfl, hr, hm, hb⟩
         have HR := Lib.hid hr
         have HM := Lib.hid hm
         have HB := Lib.hid hb.old
         obtain ⟨hc, hf⟩ := hb.cell
         clear hr hm hb
         have h3 : r = false ∨ (r = true ∧ (65535 : Int) < (m : Int)) ∨ (r = true ∧ ¬ (65535 : Int) < (m : Int)) := by
           by_cases h6 : (65535 : Int) < (m : Int)
           · cases r; exact .inl rfl; exact .inr (.inl ⟨rfl, h6⟩)
           · cases r; exact .inl rfl; exact .inr (.inr ⟨rfl, h6⟩)
         rcases h3 with rfl | ⟨rfl, h6⟩ | ⟨rfl, h6⟩)
      | (go_at_call 31; refine (wrap10_any w _ HB.out).mono ?_; rintro e w2 ⟨b, rfl, hch, hb2⟩; have HCh := Lib.hid hch; have HB2 := Lib.hid hb2; clear hch hb2))
    · go_ret2
      obtain rfl : o = (0, 4) := by rw [HO.out, if_pos HR.out]
      obtain ⟨cs, hch⟩ := HCh.out
      exact ⟨cs, _, _, rfl, hch, HB2.out⟩
    · go_ret2
      have hmv := HM.out (by trivial)
      obtain rfl : o = (0, 4) := by
        rw [HO.out, if_neg (by rw [HR.out]; simp), if_pos (Nat.lt_of_lt_of_le (hmv ▸ (by omega : 65535 < m)) (Nat.min_le_left _ _))]
      obtain ⟨cs, hch⟩ := HCh.out
      exact ⟨cs, _, _, rfl, hch, HB2.out⟩
    · have hmv : m = val10 s.data.toList := by
        have hM := HM.out (by trivial)
        have h7 : ¬ 65535 < m := by omega
        rw [hM] at h7 ⊢
        simp only [Nat.min_def] at h7 ⊢
        split at h7
        · rw [if_pos (by assumption)]
        · omega
      have hO := HO.out
      rw [if_neg (by rw [HR.out]; simp), if_neg (by rw [← hmv]; omega), ← hmv] at hO
      obtain ⟨D, hD⟩ : ∃ D, def10 t.data.toList = D := ⟨_, rfl⟩
      rw [hD] at hO HD
      clear hmv hD
      by_cases hE : (m : Int) = D
      · have HN : Hid (o = (-1, 0)) := by show o = _; rw [hO, if_pos hE]
        have hq : ((m : Int) == D) = true := beq_iff_eq.2 hE
        clear hO hE
        go_region_held3 (fun wx => wx.cell? ⟨w.heap.size, 0, none⟩ = some (.int .i64 (m : Int))) (first | exact hc | go_keep) (first
          | (go_at_call 11; (with_reducible refine (HD.out _).mono ?_); rintro e w' ⟨rfl, rfl⟩))
        all_goals
          go_wp2
          go_ret2
          rw [HN.out]
          exact ⟨rfl, HB.out.drew⟩
      · have HN : Hid (o = ((m : Int), 0)) := by show o = _; rw [hO, if_neg hE]
        have hq : ((m : Int) == D) = false := beq_eq_false_iff_ne.2 hE
        clear hO hE
        go_region_held3 (fun wx => wx.cell? ⟨w.heap.size, 0, none⟩ = some (.int .i64 (m : Int))) (first | exact hc | go_keep) (first
          | (go_at_call 11; (with_reducible refine (HD.out _).mono ?_); rintro e w' ⟨rfl, rfl⟩))
        all_goals
          go_wp2
          go_ret2
          rw [HN.out]
          exact ⟨rfl, HB.out.drew⟩
end Go.Proofs.YtcndcdkcbkjbaaaDoor

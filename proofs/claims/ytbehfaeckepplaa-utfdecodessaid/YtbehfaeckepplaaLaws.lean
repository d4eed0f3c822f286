/-
  The statements of layer 2, walked: whatever the input, true.
-/
import Derived.Test.YtbehfaeckepplaaAwake
namespace Go.Proofs.Ytbehfaeckepplaa
open Go.RowKit

theorem bnext {w a b : World} (h : Below w.heap.size w a) (k : Below a.heap.size a b) : Below w.heap.size w b := h.trans (k.mono h.size)

def Yes (w : World) (e : Ending) (w' : World) : Prop := e = .returned (.bool true) ∧ Below w.heap.size w w'

theorem same_true (A B : Option Addr) (a b : List Int) (c d : Nat) (w : World) (ha : Runes w A a) (hb : Runes w B b) (hl : a.length ≤ 5000) (h : a = b) :
    Calls Try.prog 9 #[.slice A a.length c, .slice B b.length d] w (Yes w) :=
  (same_any A B a b c d w ha hb hl).mono fun _ _ ⟨he, n, hw⟩ => ⟨by rw [he, show same a b = true by simp [same, h]], by rw [hw]; exact below_drewN (Below.refl _ _) _⟩

set_option maxHeartbeats 1000000 in
set_option maxRecDepth 100000 in
theorem law_decodes (s : ByteArray) (w : World) (hs : s.size ≤ maxLen) :
    Calls Try.prog 3 #[.string s] w (Yes w) := by
  unfold maxLen at hs
  by_cases h : s.size ≤ 200
  · have hdl : (dec s.data.toList).length ≤ 200 := by have := dec_length s.data.toList; simp at this; omega
    have h2 : s.size ≤ 2000 := by omega
    go_enter Try.func3, Try.ntmps3
    go_wp2_with (first
      | (go_at_call 8; refine (awake_any _).mono ?_; rintro e w1 ⟨rfl, hb1⟩)
      | (go_at_call 10; refine (decode_any _ _ h2).mono ?_; rintro e w2 ⟨v, rfl, hm⟩; obtain ⟨A, c, rfl, hr⟩ := hm.runes; have hb2 := hm.2; have HR := Lib.hid hr; clear hr hm)
      | (go_at_call 11; refine (refDecode_any _ _ h2).mono ?_; rintro e w3 ⟨v, rfl, hm⟩; obtain ⟨A', c', rfl, hr⟩ := hm.runes; have hb3 := hm.2; have HR' := Lib.hid hr; clear hr hm)
      | (go_at_call 9; refine (same_true _ _ _ _ _ _ _ (HR.out.below hb3) HR'.out (by omega) rfl).mono ?_; rintro e w4 ⟨rfl, hb4⟩)
      | (go_at_call 12; refine (valid_any _ _ h2).mono ?_; rintro e w5 ⟨rfl, hb5⟩)
      | (go_at_call 13; refine (refValid_any _ _ h2).mono ?_; rintro e w6 ⟨rfl, hb6⟩))
    go_ret
    exact ⟨rfl, bnext (bnext (bnext (bnext (bnext hb1 hb2) hb3) hb4) hb5) hb6⟩
  · go_enter Try.func3, Try.ntmps3
    go_wp2_with (go_at_call 8; refine (awake_any _).mono ?_; rintro e w1 ⟨rfl, hb1⟩)
    go_ret
    exact ⟨rfl, hb1⟩

theorem bytes_eq {a b : ByteArray} (h : a.data.toList = b.data.toList) : a = b := by
  obtain ⟨a⟩ := a
  obtain ⟨b⟩ := b
  simp only [Array.toList_inj] at h
  rw [h]
theorem refEncode_same (A : Option Addr) (l : List Int) (c : Nat) (w : World) (h : Runes w A l) (hl : l.length ≤ 2000) :
    Calls Try.prog 15 #[.slice A l.length c] w fun e w' => e = .returned (.string (runesBytes l)) ∧ Below w.heap.size w w' :=
  (refEncode_any A l c w h hl).mono fun _ _ ⟨t, ht, he, hb⟩ => ⟨by rw [he, bytes_eq (ht.trans (runes_bytes l).symm)], hb⟩

set_option maxHeartbeats 1000000 in
set_option maxRecDepth 100000 in
theorem law_encodes (A : Option Addr) (l : List Int) (cap : Nat) (w : World) (hr : Runes w A l) (hs : l.length ≤ maxLen) :
    Calls Try.prog 4 #[.slice A l.length cap] w (Yes w) := by
  unfold maxLen at hs
  have HR := Lib.hid hr
  clear hr
  by_cases h : l.length ≤ 100
  · have h2 : l.length ≤ 2000 := by omega
    go_enter Try.func4, Try.ntmps4
    go_wp2_with (first
      | (go_at_call 8; refine (awake_any _).mono ?_; rintro e w1 ⟨rfl, hb1⟩)
      | (go_at_call 14; refine (encode_any _ _ _ _ (HR.out.below hb1)).mono ?_; rintro e w' ⟨rfl, rfl⟩)
      | (go_at_call 15; refine (refEncode_same _ _ _ _ (HR.out.below hb1) h2).mono ?_; rintro e w2 ⟨rfl, hb2⟩))
    go_ret
    exact ⟨rfl, bnext hb1 hb2⟩
  · go_enter Try.func4, Try.ntmps4
    go_wp2_with (go_at_call 8; refine (awake_any _).mono ?_; rintro e w1 ⟨rfl, hb1⟩)
    go_ret
    exact ⟨rfl, hb1⟩

theorem runes_len (l : List Int) : (runesBytes l).size ≤ 4 * l.length := runesBytes_size_le l
theorem scalar_q {c : Int} {b : Bool} (w : World) (h : scal c = b) :
    Calls Try.prog 16 #[.int .i32 c] w fun e w' => e = .returned (.bool b) ∧ w' = w :=
  (scalar_any c w).mono fun _ _ ⟨he, hw⟩ => ⟨by rw [he, h], hw.symm⟩

set_option maxHeartbeats 1000000 in
set_option maxRecDepth 100000 in
theorem law_back (A : Option Addr) (l : List Int) (cap : Nat) (w : World) (hr : Runes w A l) (hs : l.length ≤ maxLen) :
    Calls Try.prog 5 #[.slice A l.length cap] w (Yes w) := by
  unfold maxLen at hs
  have HR := Lib.hid hr
  clear hr
  by_cases h : l.length ≤ 100
  · have h2 : l.length ≤ 2000 := by omega
    have h3 : (runesBytes l).size ≤ 2000 := by have := runes_len l; omega
    have HD : Hid (dec (runesBytes l).data.toList = l.map fix) := by
      show dec (runesBytes l).data.toList = l.map fix
      rw [runes_bytes, dec_enc0]
    have HV : Hid (vld (runesBytes l).data.toList = true) := by
      show vld (runesBytes l).data.toList = true
      rw [runes_bytes, vld_enc0]
    have hne : ((l.length : Int) != (l.length : Int)) = false := by simp
    go_enter Try.func5, Try.ntmps5
    go_wp2_with (first
      | (go_at_call 8; refine (awake_any _).mono ?_; rintro e w1 ⟨rfl, hb1⟩)
      | (go_at_call 14; refine (encode_any _ _ _ _ (HR.out.below hb1)).mono ?_; rintro e w' ⟨rfl, rfl⟩)
      | (go_at_call 10; refine (decode_any _ _ h3).mono ?_; rintro e w2 ⟨v, rfl, hm⟩; rw [HD.out] at hm; obtain ⟨B, c, rfl, hr⟩ := hm.runes; have hb2 := hm.2; have HB := Lib.hid hr; clear hr hm; rw [List.length_map]))
    go_loopw [6] (fun i wr => ∃ k : Nat, k ≤ l.length ∧ i = .int .i64 k ∧ Below w2.heap.size w2 wr) (fun i _ => l.length - (intOf i).toNat)
    case atStart => exact ⟨0, Nat.zero_le _, rfl, Below.refl _ _⟩
    case round =>
      obtain ⟨k, hk, rfl, hb⟩ := hrel
      by_cases hlt : k < l.length
      · obtain ⟨ba, offa, rfl, _, hca⟩ := ((HR.out.below (bnext hb1 hb2)).below hb) k l[k] (List.getElem?_eq_getElem hlt)
        obtain ⟨bb, offb, rfl, _, hcb⟩ := (HB.out.below hb) k (fix l[k]) (by simp [List.getElem?_eq_getElem hlt])
        have hlt' : k < l.length := hlt
        by_cases hsc : scal l[k] = true
        · rw [fix_scal hsc] at hcb
          have HS := Lib.hid hsc
          have hq : (l[k] != l[k]) = false := by simp
          clear hsc
          go_wp2_with fail
          go_quiet ((go_at_call 16; exact Calls.quiet_of_same (scalar_q _ HS.out)))
          go_wp2
          go_roundw
          case rel => exact ⟨k + 1, by omega, by go_num, below_drewN hb _⟩
          case measure => simp [intOf]; omega
        · have HS := Lib.hid (Bool.eq_false_iff.2 hsc)
          have hfx : fix l[k] = 65533 := by unfold fix; rw [if_neg hsc]
          rw [hfx] at hcb
          clear hsc hfx
          go_wp2_with fail
          go_quiet ((go_at_call 16; exact Calls.quiet_of_same (scalar_q _ HS.out)))
          go_wp2
          go_roundw
          case rel => exact ⟨k + 1, by omega, by go_num, below_drewN hb _⟩
          case measure => simp [intOf]; omega
      · go_wp2_with (go_at_call 12; refine (valid_any _ _ h3).mono ?_; rintro e w5 ⟨rfl, hb5⟩; rw [HV.out])
        go_ret
        exact ⟨rfl, bnext (bnext (bnext hb1 hb2) hb) hb5⟩
  · go_enter Try.func5, Try.ntmps5
    go_wp2_with (go_at_call 8; refine (awake_any _).mono ?_; rintro e w1 ⟨rfl, hb1⟩)
    go_ret
    exact ⟨rfl, hb1⟩
end Go.Proofs.Ytbehfaeckepplaa

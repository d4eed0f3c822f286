/-
  The program's May of layer 10, its closure, and every at it (written by mkschg.py).
-/
import Derived.Test.YtcndcdkcbkjbaaaDoorSchGSmall
namespace Go.Proofs.YtcndcdkcbkjbaaaDoor
open Go.RowKit

def MayB (w0 : World) (g : Nat) (b r : Bool) (e : Ending) (w' : World) : Prop := e = .returned (.bool r) ∧ Box10 w0 g (.bool b) 4 w'
set_option maxHeartbeats 1000000 in
theorem may1_let (w0 : World) (g : Nat) (b : Bool) (c : UInt8) (w : World) (h : Box10 w0 g (.bool b) 4 w) (hL : let10 c = true) :
    Calls Tryd.prog 23 #[.int .u8 (c.toNat : Int), .pointer (some ⟨g, 0, none⟩)] w (MayB w0 g true true) := by
  have HC := Lib.hid (isLetter_is hL)
  obtain ⟨hc, hf⟩ := h.cell
  have HB := Lib.hid h
  clear h hL
  go_enter Tryd.func23, Tryd.ntmps23
  go_wp2_with (go_at_call 24; (with_reducible refine (HC.out _).mono ?_); rintro e w' ⟨rfl, rfl⟩)
  go_ret
  exact ⟨rfl, HB.out.put _⟩
set_option maxHeartbeats 1000000 in
theorem may1_ahead (w0 : World) (g : Nat) (c : UInt8) (w : World) (h : Box10 w0 g (.bool false) 4 w) (hL : let10 c = false) :
    Calls Tryd.prog 23 #[.int .u8 (c.toNat : Int), .pointer (some ⟨g, 0, none⟩)] w (MayB w0 g false false) := by
  have HC := Lib.hid (isLetter_is hL)
  obtain ⟨hc, hf⟩ := h.cell
  have HB := Lib.hid h
  clear h hL
  go_enter Tryd.func23, Tryd.ntmps23
  go_wp2_with (go_at_call 24; (with_reducible refine (HC.out _).mono ?_); rintro e w' ⟨rfl, rfl⟩)
  go_ret
  exact ⟨rfl, HB.out⟩
theorem mor10_of {c : UInt8} (hL : let10 c = false) : (mor10 c = true ∧ fig10 c = true) ∨ (mor10 c = true ∧ fig10 c = false ∧ ((c.toNat : Int) == 43) = true) ∨ (mor10 c = true ∧ fig10 c = false ∧ ((c.toNat : Int) == 43) = false ∧ ((c.toNat : Int) == 45) = true) ∨ (mor10 c = true ∧ fig10 c = false ∧ ((c.toNat : Int) == 43) = false ∧ ((c.toNat : Int) == 45) = false ∧ ((c.toNat : Int) == 46) = true) ∨ (mor10 c = false ∧ fig10 c = false ∧ ((c.toNat : Int) == 43) = false ∧ ((c.toNat : Int) == 45) = false ∧ ((c.toNat : Int) == 46) = false) := by
  have hm : mor10 c = (fig10 c || decide (c.toNat = 43) || decide (c.toNat = 45) || decide (c.toNat = 46)) := by unfold mor10; rw [hL, Bool.false_or]
  cases hf : fig10 c with
  | true => exact .inl ⟨by rw [hm, hf]; rfl, rfl⟩
  | false =>
    rw [hf, Bool.false_or] at hm
    by_cases h1 : c.toNat = 43
    · exact .inr (.inl ⟨by rw [hm]; simp [h1], rfl, by rw [h1]; rfl⟩)
    by_cases h2 : c.toNat = 45
    · exact .inr (.inr (.inl ⟨by rw [hm]; simp [h2], rfl, by rw [h2]; rfl, by rw [h2]; rfl⟩))
    by_cases h3 : c.toNat = 46
    · exact .inr (.inr (.inr (.inl ⟨by rw [hm]; simp [h3], rfl, by rw [h3]; rfl, by rw [h3]; rfl, by rw [h3]; rfl⟩)))
    · exact .inr (.inr (.inr (.inr ⟨by rw [hm]; simp [h1, h2, h3], rfl, beq_eq_false_iff_ne.2 (by omega), beq_eq_false_iff_ne.2 (by omega), beq_eq_false_iff_ne.2 (by omega)⟩)))
set_option maxHeartbeats 2000000 in
theorem may1_behind (w0 : World) (g : Nat) (c : UInt8) (w : World) (h : Box10 w0 g (.bool true) 4 w) (hL : let10 c = false) :
    Calls Tryd.prog 23 #[.int .u8 (c.toNat : Int), .pointer (some ⟨g, 0, none⟩)] w (MayB w0 g true (mor10 c)) := by
  have HC := Lib.hid (isLetter_is hL)
  obtain ⟨hc, hf⟩ := h.cell
  have HB := Lib.hid h
  have hu := c.toNat_lt
  rcases mor10_of hL with ⟨hm, hF⟩ | ⟨hm, hF, e1⟩ | ⟨hm, hF, e1, e2⟩ | ⟨hm, hF, e1, e2, e3⟩ | ⟨hm, hF, e1, e2, e3⟩
  all_goals
    have HF := Lib.hid (isFigure_is hF)
    have HM := Lib.hid hm
    clear h hL hF hm
    go_enter Tryd.func23, Tryd.ntmps23
    go_wp2_with (first
      | (go_at_call 24; (with_reducible refine (HC.out _).mono ?_); rintro e w' ⟨rfl, rfl⟩)
      | (go_at_call 25; (with_reducible refine (HF.out _).mono ?_); rintro e w' ⟨rfl, rfl⟩))
    go_ret
    exact ⟨ret_bool HM.out.symm, HB.out⟩
/-- What the closure answers, and whether it has begun behind it. -/
theorem may1_any (w0 : World) (g : Nat) (b : Bool) (c : UInt8) (w : World) (h : Box10 w0 g (.bool b) 4 w) :
    Calls Tryd.prog 23 #[.int .u8 (c.toNat : Int), .pointer (some ⟨g, 0, none⟩)] w (MayB w0 g (b || let10 c) (let10 c || (b && mor10 c))) := by
  cases hL : let10 c with
  | true => rw [Bool.or_true, Bool.true_or]; exact may1_let w0 g b c w h hL
  | false =>
    rw [Bool.or_false, Bool.false_or]
    cases b with
    | false => exact may1_ahead w0 g c w h hL
    | true => rw [Bool.true_and]; exact may1_behind w0 g c w h hL
theorem may1_is {w0 : World} {g : Nat} {b b2 r : Bool} {c : UInt8} (h1 : (b || let10 c) = b2) (h2 : (let10 c || (b && mor10 c)) = r) {w : World} (h : Box10 w0 g (.bool b) 4 w) :
    Calls Tryd.prog 23 #[.int .u8 (c.toNat : Int), .pointer (some ⟨g, 0, none⟩)] w fun e w' => e = .returned (.bool r) ∧ Box10 w0 g (.bool b2) 4 w' := h1 ▸ h2 ▸ may1_any w0 g b c w h

/-- What every answers, and whether it has begun behind it. -/
def evb10 (l : List UInt8) : Bool := decide (l = []) || may10 l
set_option maxHeartbeats 2000000 in
set_option maxRecDepth 100000 in
theorem every_may (w0 : World) (g : Nat) (s : ByteArray) (w : World) (hs : s.size ≤ 100000) (h : Box10 w0 g (.bool false) 4 w) :
    Calls Tryd.prog 26 #[.string s, .func (.func 23) #[] #[.pointer (some ⟨g, 0, none⟩)]] w fun e w' => ∃ r b : Bool, e = .returned (.bool r) ∧ (r && b) = may10 s.data.toList ∧ Box10 w0 g (.bool b) 4 w' := by
  have HX := Lib.hid h
  clear h
  go_enter Tryd.func26, Tryd.ntmps26
  go_wp2
  go_loopw [8] (fun i wr => ∃ k : Nat, k ≤ s.size ∧ i = .int .i64 k ∧ Box10 w0 g (.bool (decide (0 < k))) 4 wr ∧ (k = 0 ∨ may10 (s.data.toList.take k) = true)) (fun i _ => s.size - (intOf i).toNat)
  case atStart => exact ⟨0, Nat.zero_le _, rfl, HX.out, .inl rfl⟩
  case round =>
    obtain ⟨k, hk, rfl, hb, hp⟩ := hrel
    have HP := Lib.hid hp
    have HB := Lib.hid hb
    clear hp hb
    by_cases hlt : k < s.size
    · have hu := (s[k]'hlt).toNat_lt
      cases hr : (let10 (s[k]'hlt) || (decide (0 < k) && mor10 (s[k]'hlt))) with
      | true =>
        have hN : may10 (s.data.toList.take (k + 1)) = true := by
          rw [may10_at hlt]
          split
          · rename_i h0
            subst h0
            simpa using hr
          · rename_i h0
            rw [HP.out.resolve_left h0, Bool.true_and]
            cases hl : let10 (s[k]'hlt) with
            | true => exact let10_mor hl
            | false => rw [hl, Bool.false_or, Bool.and_eq_true] at hr; exact hr.2
        have hb2 : (decide (0 < k) || let10 (s[k]'hlt)) = true := by
          cases hl : let10 (s[k]'hlt) with
          | true => simp
          | false => rw [hl, Bool.false_or, Bool.and_eq_true] at hr; rw [hr.1]; rfl
        have HN := Lib.hid hN
        have HC := Lib.hid (may1_is hb2 hr HB.out)
        clear hN hb2 hr
        go_wp2_with (go_at_call 23; refine HC.out.mono ?_; rintro e w' ⟨rfl, hb⟩)
        go_roundw
        case rel => exact ⟨k + 1, by omega, by go_num, by rw [decide_eq_true (by omega : 0 < k + 1)]; exact hb, .inr HN.out⟩
        case measure => simp [intOf]; omega
      | false =>
        have hN : may10 s.data.toList = false := by
          refine may10_begin (k := k) ?_
          rw [may10_at hlt]
          rw [Bool.or_eq_false_iff] at hr
          split
          · exact hr.1
          · rename_i h0
            rw [decide_eq_true (by omega), Bool.true_and] at hr
            rw [hr.2, Bool.and_false]
        have HN := Lib.hid hN
        have HC := Lib.hid (may1_is rfl hr HB.out)
        clear hN hr
        go_wp2_with (go_at_call 23; refine HC.out.mono ?_; rintro e w' ⟨rfl, hb⟩)
        go_ret
        exact ⟨false, _, rfl, by rw [HN.out]; rfl, hb⟩
    · obtain rfl : k = s.size := by omega
      have HE : Hid ((true && decide (0 < s.size)) = may10 s.data.toList) := by
        show (true && decide (0 < s.size)) = may10 s.data.toList
        rw [Bool.true_and]
        rcases HP.out with h | h
        · rw [List.eq_nil_of_length_eq_zero ((len10 s).trans h), h]; rfl
        · rw [List.take_of_length_le (by rw [len10]; exact Nat.le_refl _)] at h
          have h1 : s.data.toList.length ≠ 0 := fun e => may10_full h (List.eq_nil_of_length_eq_zero e)
          rw [len10] at h1
          rw [h]
          exact decide_eq_true (by omega)
      go_wp2
      go_ret
      exact ⟨true, _, rfl, HE.out, HB.out⟩
set_option maxHeartbeats 1000000 in
set_option maxRecDepth 100000 in
theorem smay_any (s : ByteArray) (w : World) (hs : s.size ≤ 100000) : Calls Tryd.prog 13 #[.string s] w fun e w' => e = .returned (.bool (may10 s.data.toList)) ∧ Below w.heap.size w w' := by
  have HC := Lib.hid (every_may w w.heap.size s _ hs (Box10.new w (.bool false) 4))
  go_enter Tryd.func13, Tryd.ntmps13
  go_wp2_with (go_at_call 26; refine HC.out.mono ?_; rintro e w' ⟨r, b, rfl, hm, hb⟩; have HM := Lib.hid hm; have HB := Lib.hid hb.old; obtain ⟨hc, hf⟩ := hb.cell; clear hm hb; cases r <;> cases b)
  all_goals
    go_ret
    exact ⟨ret_bool HM.out, HB.out⟩
theorem smay_is {s : ByteArray} {b : Bool} (h : may10 s.data.toList = b) (hs : s.size ≤ 100000) (w : World) : Calls Tryd.prog 13 #[.string s] w fun e w' => e = .returned (.bool b) ∧ Below w.heap.size w w' := h ▸ smay_any s w hs
end Go.Proofs.YtcndcdkcbkjbaaaDoor

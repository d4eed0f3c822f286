/-
  awake of the laws of layer 1: it tells true.
-/
import Derived.Test.YtabbmbaokefnpaaDoorCalls
import Derived.Test.YtabbmbaokefnpaaDoorTxt
import Derived.Test.YtabbmbaokefnpaaDoorIs
import Derived.Test.YtabbmbaokefnpaaDoorFind
namespace Go.Proofs.YtabbmbaokefnpaaDoor
open Go.RowKit

theorem methodError (a : Option Addr) (w : World) : (Go.method 225 40 (.pointer a) "Error").run Tryd.prog w = .ok (22, .pointer a) w := by kernel_rfl

theorem Chain.cons_form {w : World} {c : ByteArray} {cs : List ByteArray} {o : Option Int} {u : TypeId} {x : Value} (h : Chain w (c :: cs) o (.iface u x)) : ∃ b, u = 40 ∧ x = .pointer (some ⟨b, 0, none⟩) := by
  obtain ⟨b, v', e, _⟩ := h
  injection e with e1 e2
  exact ⟨b, e1, e2⟩

theorem strs_two (w : World) (a b : ByteArray) : Strs (w.alloc (.cells #[.string a, .string b] 9)) (some ⟨w.heap.size, 0, none⟩) [a, b] := by
  intro i s hs
  refine ⟨w.heap.size, 0, rfl, by simp, ?_⟩
  match i, hs with
  | 0, hs => simp at hs; subst hs; simp
  | 1, hs => simp at hs; subst hs; simp

set_option maxHeartbeats 4000000 in
set_option maxRecDepth 100000 in
theorem awake_any (w : World) (hg : Ready w) : Calls Tryd.prog 8 #[] w (Returns (.bool true) w) := by
  have HG := Lib.hid hg
  clear hg
  have mE := methodError
  go_enter Tryd.func8, Tryd.ntmps8
  go_wp2_with fail
  refine (all_any _ _ 2 3 _ (by decide) (strs_two w ⟨#[104, 111, 115, 116]⟩ ⟨#[112, 97, 114, 115, 101]⟩) (by unfold maxLen; decide)).mono ?_
  rintro e w1 ⟨u, x, rfl, hch, hb1⟩
  obtain ⟨b, rfl, rfl⟩ := hch.cons_form
  have HC := Lib.hid hch
  clear hch
  have k1 : Below w.heap.size w w1 := ((Below.refl _ _).alloc (Nat.le_refl _) _).trans (hb1.mono (by simp))
  have HG1 := Lib.hid (HG.out.below k1)
  go_wp2_with fail
  refine (calls_any _ (some 3) _ _ HC.out HG1.out (by decide) (.inr ⟨_, _, rfl⟩)).mono ?_
  rintro e w2 ⟨v, rfl, hm⟩
  obtain ⟨A, c, rfl, hS⟩ := hm.strs
  have k2 := hm.2
  obtain ⟨b2, off2, rfl, hl2, hc2⟩ := hS 0 ⟨#[112, 97, 114, 115, 101]⟩ rfl
  clear hS hm
  have HC2 := Lib.hid (HC.out.below k2)
  have HG2 := Lib.hid (HG1.out.below k2)
  go_wp2_with fail
  refine (fail_error _ _ b 3 _ (by decide) (by decide) (by decide) (by decide) HC2.out).mono ?_
  rintro e w3 ⟨rfl, k3⟩
  have HC3 := Lib.hid (HC2.out.below k3)
  have HG3 := Lib.hid (HG2.out.below k3)
  have hw : txt [⟨#[112, 97, 114, 115, 101]⟩, ⟨#[104, 111, 115, 116]⟩] (word 3) = ⟨#[112, 97, 114, 115, 101, 58, 32, 104, 111, 115, 116, 58, 32, 104, 111, 115, 116]⟩ := by decide
  go_wp2_with fail
  refine (is_any _ 3 3 _ _ _ HC3.out).mono ?_
  rintro e w' ⟨rfl, rfl⟩
  go_wp2_with fail
  refine (is_any _ 3 4 _ _ _ HC3.out).mono ?_
  rintro e w' ⟨rfl, rfl⟩
  go_wp2_with fail
  refine (code_some _ 3 _ _ _ HC3.out HG3.out).mono ?_
  rintro e w4 ⟨rfl, k4⟩
  have hc4 := (k4.cell (p := ⟨b2, off2, none⟩) (Nat.lt_of_lt_of_le hl2 k3.size)).trans ((k3.cell (p := ⟨b2, off2, none⟩) hl2).trans hc2)
  have kk : Below w.heap.size w w4 := k1.trans ((k2.mono k1.size).trans ((k3.mono (Nat.le_trans k1.size k2.size)).trans (k4.mono (Nat.le_trans k1.size (Nat.le_trans k2.size k3.size)))))
  go_wp2_with (go_at_call 14; refine (code_nil _).mono ?_; rintro e w' ⟨rfl, rfl⟩)
  go_ret
  exact ⟨rfl, kk⟩
end Go.Proofs.YtabbmbaokefnpaaDoor

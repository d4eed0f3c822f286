/-
  The example of layer 4's statements.
-/
import Derived.Test.YtmnpefpglpabmaaDoorNCon
import Derived.Test.YtmnpefpglpabmaaDoorFIs
namespace Go.Proofs.YtmnpefpglpabmaaDoor
open Go.RowKit

theorem bnext {w a b : World} (h : Below w.heap.size w a) (k : Below a.heap.size a b) : Below w.heap.size w b := h.trans (k.mono h.size)
def Yes (w : World) (e : Ending) (w' : World) : Prop := e = .returned (.bool true) ∧ Below w.heap.size w w'

theorem tell_a : tellK 745 72 36 = [107, 118, 97] := by
  rw [tellK_more (by decide), tellK_more (by decide), tellK_small (by decide)]
  decide
theorem penc_a : penc [98, 252, 99, 104, 101, 114] = [98, 99, 104, 101, 114, 45, 107, 118, 97] := by
  have h1 : basicOf [98, 252, 99, 104, 101, 114] = [98, 99, 104, 101, 114] := by decide
  have h2 : deltas [98, 252, 99, 104, 101, 114] 6 128 0 5 = [745] := by decide +kernel
  unfold penc
  rw [h1]
  show _ ++ _ ++ tells 5 (deltas [98, 252, 99, 104, 101, 114] 6 128 0 5) 72 5 = _
  rw [h2]
  show _ ++ _ ++ (tellK 745 72 36 ++ []) = _
  rw [tell_a]
  decide
theorem pdec_a : pdec [109, 110, 99, 104, 101, 110, 45, 51, 121, 97] = some [109, 252, 110, 99, 104, 101, 110] := by decide +kernel
theorem pdec_b : pdec [97, 45, 33] = none := by decide +kernel
theorem runes_new (w : World) (l : List Int) (t : TypeId) : Runes (w.alloc (.cells (l.map (Value.int .i32)).toArray t)) (some ⟨w.heap.size, 0, none⟩) l := by
  intro i c hc
  refine ⟨w.heap.size, 0, rfl, by simp, ?_⟩
  rw [World.cell?_alloc_at _ _ _ _ rfl, Nat.zero_add]
  simp [hc]

theorem conv_a (A : Option Addr) (c : Nat) (w : World) (h : Runes w A (ints [109, 252, 110, 99, 104, 101, 110])) :
    (convert 22 9 (.slice A 7 c)).run Tryd.prog w = .ok (.string ⟨#[109, 195, 188, 110, 99, 104, 101, 110]⟩) w := by
  have := convert_runes A (ints [109, 252, 110, 99, 104, 101, 110]) c w h
  rw [show runesBytes (ints [109, 252, 110, 99, 104, 101, 110]) = ⟨#[109, 195, 188, 110, 99, 104, 101, 110]⟩ by decide] at this
  exact this

theorem enc_a (C : PunyC) (w : World) : Calls Tryd.prog 6 #[.slice (some ⟨w.heap.size, 0, none⟩) 6 6] (w.alloc (.cells #[.int .i32 98, .int .i32 252, .int .i32 99, .int .i32 104, .int .i32 101, .int .i32 114] 21)) fun e w' =>
    e = .returned (.tuple #[.string ⟨#[98, 99, 104, 101, 114, 45, 107, 118, 97]⟩, .nilIface]) ∧ Below w.heap.size w w' := by
  refine (C.encOk (some ⟨w.heap.size, 0, none⟩) [98, 252, 99, 104, 101, 114] 6 _ (runes_new w [98, 252, 99, 104, 101, 114] 21) (by decide) (by decide) (by decide)).mono ?_
  rintro e w' ⟨rfl, hb⟩
  rw [penc_a]
  exact ⟨rfl, bnext ((Below.refl _ _).alloc (Nat.le_refl _) _) hb⟩
theorem dec_a (C : PunyC) (w : World) : Calls Tryd.prog 9 #[.string ⟨#[109, 110, 99, 104, 101, 110, 45, 51, 121, 97]⟩] w fun e w' =>
    ∃ A c, e = .returned (.tuple #[.slice A 7 c, .nilIface]) ∧ Runes w' A (ints [109, 252, 110, 99, 104, 101, 110]) ∧ Below w.heap.size w w' := by
  refine (C.dec ⟨#[109, 110, 99, 104, 101, 110, 45, 51, 121, 97]⟩ w (by decide)).mono ?_
  intro e w' h
  rw [show pdec (⟨#[109, 110, 99, 104, 101, 110, 45, 51, 121, 97]⟩ : ByteArray).data.toList = _ from pdec_a] at h
  obtain ⟨A, c, rfl, hr, _, hb⟩ := h
  exact ⟨A, c, rfl, hr, hb⟩
theorem dec_b (C : PunyC) (w : World) : Calls Tryd.prog 9 #[.string ⟨#[97, 45, 33]⟩] w fun e w' =>
    ∃ cs u x, e = .returned (.tuple #[.slice none 0 0, .iface u x]) ∧ Chain w' cs (some 2) (.iface u x) ∧ Below w.heap.size w w' := by
  refine (C.dec ⟨#[97, 45, 33]⟩ w (by decide)).mono ?_
  intro e w' h
  rw [show pdec (⟨#[97, 45, 33]⟩ : ByteArray).data.toList = _ from pdec_b] at h
  exact h

set_option maxHeartbeats 1000000 in
set_option maxRecDepth 100000 in
theorem awake_any (C : PunyC) (w : World) : Calls Tryd.prog 5 #[] w (Yes w) := by
  have HC := Lib.hid C
  clear C
  go_enter Tryd.func5, Tryd.ntmps5
  go_wp2_with (first
    | (go_at_call 6; (with_reducible refine (enc_a HC.out _).mono ?_); rintro e w1 ⟨rfl, hb⟩; have HB := Lib.hid hb; clear hb)
    | (go_at_call 9; (with_reducible refine (dec_a HC.out _).mono ?_); rintro e w2 ⟨A, c, rfl, hr, hb⟩; have HR := Lib.hid hr; have HB := Lib.hid (bnext HB.out hb); clear hr hb)
    | (go_at_call 9; (with_reducible refine (dec_b HC.out _).mono ?_); rintro e w3 ⟨cs, u, x, rfl, hch, hb⟩; have HCh := Lib.hid hch; have hcv := conv_a A c _ (HR.out.below hb); have HB := Lib.hid (bnext HB.out hb); clear hch hb)
    | (go_at_call 12; refine (is_any _ 2 2 u x _ HCh.out).mono ?_; rintro e w' ⟨rfl, rfl⟩))
  go_ret
  exact ⟨rfl, HB.out⟩
end Go.Proofs.YtmnpefpglpabmaaDoor

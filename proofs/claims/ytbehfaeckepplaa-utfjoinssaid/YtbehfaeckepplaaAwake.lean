/-
  awake of layer 2's statements: it says true.
-/
import Derived.Test.YtbehfaeckepplaaRef3
namespace Go.Proofs.Ytbehfaeckepplaa
open Go.RowKit

theorem dec_a : dec [226, 130, 65] = [65533, 65] := by
  rw [dec_step (by simp), show one [226, 130, 65] = (65533, 2, false) by decide]
  show 65533 :: dec [65] = _
  rw [dec_step (by simp), show one [65] = (65, 1, true) by decide]
  show 65533 :: 65 :: dec [] = _
  rw [dec_nil]
theorem vld_a : vld [226, 130, 172] = true := by
  rw [vld_step (by simp), show one [226, 130, 172] = (8364, 3, true) by decide]
  show (true && vld []) = _
  rw [vld_nil]; rfl
theorem vld_b : vld [255] = false := by
  rw [vld_step (by simp), show one [255] = (65533, 1, false) by decide]
  rfl
theorem runes_new (w : World) (l : List Int) (t : TypeId) : Runes (w.alloc (.cells (l.map (Value.int .i32)).toArray t)) (some ⟨w.heap.size, 0, none⟩) l := by
  intro i c hc
  refine ⟨w.heap.size, 0, rfl, by simp, ?_⟩
  rw [World.cell?_alloc_at _ _ _ _ rfl, Nat.zero_add]
  simp [hc]

theorem encode_new (w : World) : Calls Try.prog 14 #[.slice (some ⟨w.heap.size, 0, none⟩) 2 2] (w.alloc (.cells #[.int .i32 8364, .int .i32 (-1)] 21)) fun e w' =>
    e = .returned (.string ⟨#[226, 130, 172, 239, 191, 189]⟩) ∧ w.alloc (.cells #[.int .i32 8364, .int .i32 (-1)] 21) = w' :=
  (encode_any (some ⟨w.heap.size, 0, none⟩) [8364, -1] 2 _ (runes_new w [8364, -1] 21)).mono fun _ _ ⟨he, hw⟩ => ⟨he.trans (by rw [show runesBytes [8364, -1] = ⟨#[226, 130, 172, 239, 191, 189]⟩ by decide]), hw⟩
theorem valid_a (w : World) : Calls Try.prog 12 #[.string ⟨#[226, 130, 172]⟩] w fun e w' => e = .returned (.bool true) ∧ Below w.heap.size w w' :=
  (valid_any ⟨#[226, 130, 172]⟩ w (by decide)).mono fun _ _ ⟨he, hw⟩ => ⟨he.trans (by rw [show vld (⟨#[226, 130, 172]⟩ : ByteArray).data.toList = true from vld_a]), hw⟩
theorem valid_b (w : World) : Calls Try.prog 12 #[.string ⟨#[255]⟩] w fun e w' => e = .returned (.bool false) ∧ Below w.heap.size w w' :=
  (valid_any ⟨#[255]⟩ w (by decide)).mono fun _ _ ⟨he, hw⟩ => ⟨he.trans (by rw [show vld (⟨#[255]⟩ : ByteArray).data.toList = false from vld_b]), hw⟩

set_option maxHeartbeats 1000000 in
set_option maxRecDepth 100000 in
theorem awake_any (w : World) :
    Calls Try.prog 8 #[] w fun e w' => e = .returned (.bool true) ∧ Below w.heap.size w w' := by
  have HD := Lib.hid dec_a
  go_enter Try.func8, Try.ntmps8
  go_wp2_with (
    go_at_call 10
    refine (decode_any _ _ (by decide)).mono ?_
    rintro e w1 ⟨v, rfl, hm⟩
    have hm : Made w w1 v [65533, 65] := by rw [← HD.out]; exact hm
    obtain ⟨A, c, rfl, hr⟩ := hm.runes
    have hb1 := hm.2
    obtain ⟨b, off, rfl, hlt, hc0⟩ := hr 0 65533 rfl
    obtain ⟨b', off', e', _, hc1⟩ := hr 1 65 rfl
    obtain ⟨rfl, rfl⟩ : b' = b ∧ off' = off := by
      have := Option.some.inj e'
      simp only [Addr.mk.injEq] at this
      exact ⟨this.1.symm, this.2.1.symm⟩
    simp only [Nat.add_zero] at hc0
    clear e' hm hr)
  go_wp2_with (first
    | (go_at_call 14; (with_reducible refine (encode_new _).mono ?_); rintro e w' ⟨rfl, rfl⟩)
    | (go_at_call 12; (with_reducible refine (valid_a _).mono ?_); rintro e w2 ⟨rfl, hb2⟩)
    | (go_at_call 12; (with_reducible refine (valid_b _).mono ?_); rintro e w3 ⟨rfl, hb3⟩))
  go_ret
  have hb4 : Below w1.heap.size w1 w2 := ((Below.refl _ _).alloc (Nat.le_refl _) _).trans (hb2.mono (by simp))
  have hb5 : Below w1.heap.size w1 w3 := hb4.trans (hb3.mono hb4.size)
  exact ⟨rfl, hb1.trans (hb5.mono hb1.size)⟩
end Go.Proofs.Ytbehfaeckepplaa

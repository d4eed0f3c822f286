/-
  The example of layer 3's statements.
-/
import Derived.Test.YtlekbkmcjpnifaaPRefEnc
namespace Go.Proofs.Ytlekbkmcjpnifaa
open Go.RowKit

theorem bnext {w a b : World} (h : Below w.heap.size w a) (k : Below a.heap.size a b) : Below w.heap.size w b := h.trans (k.mono h.size)
def Yes (w : World) (e : Ending) (w' : World) : Prop := e = .returned (.bool true) ∧ Below w.heap.size w w'

theorem pd_go {l t : List UInt8} {a : UInt8} {n : Nat} (hs : step l = (a, n)) (h : l ≠ []) (ht : l.drop n = t) : pd l = a :: pd t := by
  rw [pd_step h, hs, ← ht]
theorem pd_a : pd [97, 37, 51, 102, 37, 67, 51, 37, 65, 57, 37, 122, 122, 37, 52] = [97, 63, 195, 169, 37, 122, 122, 37, 52] := by
  rw [pd_go (a := 97) (n := 1) (t := [37, 51, 102, 37, 67, 51, 37, 65, 57, 37, 122, 122, 37, 52]) (by decide) (by simp) rfl,
    pd_go (a := 63) (n := 3) (t := [37, 67, 51, 37, 65, 57, 37, 122, 122, 37, 52]) (by decide) (by simp) rfl,
    pd_go (a := 195) (n := 3) (t := [37, 65, 57, 37, 122, 122, 37, 52]) (by decide) (by simp) rfl,
    pd_go (a := 169) (n := 3) (t := [37, 122, 122, 37, 52]) (by decide) (by simp) rfl,
    pd_go (a := 37) (n := 1) (t := [122, 122, 37, 52]) (by decide) (by simp) rfl,
    pd_go (a := 122) (n := 1) (t := [122, 37, 52]) (by decide) (by simp) rfl,
    pd_go (a := 122) (n := 1) (t := [37, 52]) (by decide) (by simp) rfl,
    pd_go (a := 37) (n := 1) (t := [52]) (by decide) (by simp) rfl,
    pd_go (a := 52) (n := 1) (t := []) (by decide) (by simp) rfl, pd_nil]
theorem pe_a : pe 5 [97, 63, 233] = [97, 37, 51, 70, 37, 67, 51, 37, 65, 57] := by decide +kernel

theorem runes_new (w : World) (l : List Int) (t : TypeId) : Runes (w.alloc (.cells (l.map (Value.int .i32)).toArray t)) (some ⟨w.heap.size, 0, none⟩) l := by
  intro i c hc
  refine ⟨w.heap.size, 0, rfl, by simp, ?_⟩
  rw [World.cell?_alloc_at _ _ _ _ rfl, Nat.zero_add]
  simp [hc]
theorem pencode_a (w : World) : Calls Try.prog 11 #[.int .i64 5, .slice (some ⟨w.heap.size, 0, none⟩) 3 3] (w.alloc (.cells #[.int .i32 97, .int .i32 63, .int .i32 233] 21)) fun e w' =>
    e = .returned (.string ⟨#[97, 37, 51, 70, 37, 67, 51, 37, 65, 57]⟩) ∧ Below w.heap.size w w' := by
  refine (pencode_any 5 (some ⟨w.heap.size, 0, none⟩) [97, 63, 233] 3 _ (runes_new w [97, 63, 233] 21) (by simp)).mono ?_
  rintro e w' ⟨rfl, hb⟩
  rw [pe_a]
  exact ⟨rfl, bnext ((Below.refl _ _).alloc (Nat.le_refl _) _) hb⟩
theorem pdecode_a (w : World) : Calls Try.prog 13 #[.string ⟨#[97, 37, 51, 102, 37, 67, 51, 37, 65, 57, 37, 122, 122, 37, 52]⟩] w fun e w' =>
    e = .returned (.string ⟨#[97, 63, 195, 169, 37, 122, 122, 37, 52]⟩) ∧ Below w.heap.size w w' := by
  refine (pdecode_any ⟨#[97, 37, 51, 102, 37, 67, 51, 37, 65, 57, 37, 122, 122, 37, 52]⟩ w (by decide)).mono ?_
  rintro e w' ⟨rfl, hb⟩
  rw [show pd (⟨#[97, 37, 51, 102, 37, 67, 51, 37, 65, 57, 37, 122, 122, 37, 52]⟩ : ByteArray).data.toList = _ from pd_a]
  exact ⟨rfl, hb⟩
theorem in_a (w : World) : Calls Try.prog 9 #[.int .i64 4, .int .i32 39] w fun e w' => e = .returned (.bool true) ∧ Below w.heap.size w w' := in_of w (by decide)
theorem in_b (w : World) : Calls Try.prog 9 #[.int .i64 5, .int .i32 39] w fun e w' => e = .returned (.bool false) ∧ Below w.heap.size w w' := in_of w (by decide)
theorem in_c (w : World) : Calls Try.prog 9 #[.int .i64 9, .int .i32 1] w fun e w' => e = .returned (.bool false) ∧ Below w.heap.size w w' := in_of w (by decide)

set_option maxHeartbeats 1000000 in
set_option maxRecDepth 100000 in
theorem awake_any (w : World) : Calls Try.prog 8 #[] w (Yes w) := by
  go_enter Try.func8, Try.ntmps8
  go_wp2_with (first
    | (go_at_call 11; (with_reducible refine (pencode_a _).mono ?_); rintro e w1 ⟨rfl, hb⟩; have HB := Lib.hid hb; clear hb)
    | (go_at_call 13; (with_reducible refine (pdecode_a _).mono ?_); rintro e w2 ⟨rfl, hb⟩; have HB := Lib.hid (bnext HB.out hb); clear hb)
    | (go_at_call 9; (with_reducible refine (in_a _).mono ?_); rintro e w3 ⟨rfl, hb⟩; have HB := Lib.hid (bnext HB.out hb); clear hb)
    | (go_at_call 9; (with_reducible refine (in_b _).mono ?_); rintro e w4 ⟨rfl, hb⟩; have HB := Lib.hid (bnext HB.out hb); clear hb)
    | (go_at_call 9; (with_reducible refine (in_c _).mono ?_); rintro e w5 ⟨rfl, hb⟩; have HB := Lib.hid (bnext HB.out hb); clear hb))
  go_ret
  exact ⟨rfl, HB.out⟩
end Go.Proofs.Ytlekbkmcjpnifaa

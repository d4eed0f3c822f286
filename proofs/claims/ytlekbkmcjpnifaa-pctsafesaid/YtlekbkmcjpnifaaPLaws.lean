/-
  The statements of layer 3, walked: whatever the input, true.
-/
import Derived.Test.YtlekbkmcjpnifaaPAwake
namespace Go.Proofs.Ytlekbkmcjpnifaa
open Go.RowKit

theorem bytes_eq {a b : ByteArray} (h : a.data.toList = b.data.toList) : a = b := by
  obtain ⟨a⟩ := a
  obtain ⟨b⟩ := b
  simp only [Array.toList_inj] at h
  rw [h]

set_option maxHeartbeats 1000000 in
set_option maxRecDepth 100000 in
theorem law_in (set c : Int) (w : World) (_ : -9223372036854775808 ≤ set) (_ : set ≤ 9223372036854775807) (_ : -2147483648 ≤ c) (_ : c ≤ 2147483647) :
    Calls Try.prog 3 #[.int .i64 set, .int .i32 c] w (Yes w) := by
  go_enter Try.func3, Try.ntmps3
  go_wp2_with (first
    | (go_at_call 8; refine (awake_any _).mono ?_; rintro e w1 ⟨rfl, hb⟩; have HB := Lib.hid hb; clear hb)
    | (go_at_call 9; refine (in_any _ c _).mono ?_; rintro e w2 ⟨rfl, hb⟩; have HB := Lib.hid (bnext HB.out hb); clear hb)
    | (go_at_call 10; refine (refIn_any _ c _).mono ?_; rintro e w2 ⟨rfl, rfl⟩))
  go_ret
  exact ⟨rfl, HB.out⟩

set_option maxHeartbeats 1000000 in
set_option maxRecDepth 100000 in
theorem law_encodes (set : Int) (A : Option Addr) (l : List Int) (cap : Nat) (w : World) (_ : -9223372036854775808 ≤ set) (_ : set ≤ 9223372036854775807) (hr : Runes w A l) (hs : l.length ≤ maxLen) (hcap : l.length ≤ cap) :
    Calls Try.prog 4 #[.int .i64 set, .slice A l.length cap] w (Yes w) := by
  unfold maxLen at hs
  have HR := Lib.hid hr
  clear hr
  by_cases h : l.length ≤ 100
  · have h2 : l.length ≤ 2000 := by omega
    go_enter Try.func4, Try.ntmps4
    go_wp2_with (first
      | (go_at_call 8; refine (awake_any _).mono ?_; rintro e w1 ⟨rfl, hb⟩; have HB := Lib.hid hb; clear hb)
      | (go_at_call 11; refine (pencode_any _ A l cap _ (HR.out.below HB.out) h2).mono ?_; rintro e w2 ⟨rfl, hb⟩; have HB := Lib.hid (bnext HB.out hb); clear hb)
      | (go_at_call 12; refine (refPe_any _ A l cap _ (HR.out.below HB.out) h2 hcap).mono ?_; rintro e w2 ⟨rfl, hb⟩; have HB := Lib.hid (bnext HB.out hb); clear hb))
    go_ret
    exact ⟨rfl, HB.out⟩
  · go_enter Try.func4, Try.ntmps4
    go_wp2_with (go_at_call 8; refine (awake_any _).mono ?_; rintro e w1 ⟨rfl, hb1⟩)
    go_ret
    exact ⟨rfl, hb1⟩
end Go.Proofs.Ytlekbkmcjpnifaa

/-
  SchemePorts, walked over the program's contracts: whatever the input, true (written by mkschlaws.py).
-/
import Derived.Test.YtcndcdkcbkjbaaaDoorSchLawsA
import Derived.Test.YtcndcdkcbkjbaaaDoorFFind
namespace Go.Proofs.YtcndcdkcbkjbaaaDoor
open Go.RowKit
set_option maxHeartbeats 2000000 in
set_option maxRecDepth 100000 in
theorem law_ports10 (s t : ByteArray) (w : World) (hs : s.size ≤ maxLen) (ht : t.size ≤ maxLen) (hg : Ready w) (C : SchC w) : Calls Tryd.prog 5 #[.string s, .string t] w (Yes10 w) := by
  unfold maxLen at hs ht
  have HC := Lib.hid C
  have HG := Lib.hid hg
  clear C hg
  by_cases h : s.size ≤ 80
  · by_cases h' : t.size ≤ 80
    · obtain ⟨o, ho⟩ : ∃ o, port10 s.data.toList t.data.toList = o := ⟨_, rfl⟩
      have hc := port10_cases s.data.toList t.data.toList
      rw [ho] at hc
      rcases hc with hc | rfl
      · obtain ⟨n, k⟩ := o
        obtain rfl : k = 0 := hc
        have HO := Lib.hid ho
        clear ho
        go_enter Tryd.func5, Tryd.ntmps5
        go_wp2_with (first
          | (go_at_call 8; (with_reducible refine (awake10 HC.out).mono ?_); rintro e w1 ⟨rfl, hb⟩; have HB := Lib.hid hb; clear hb)
          | (go_at_call 17; (with_reducible refine (cport_ok HC.out HO.out (by omega) (by omega) _ HB.out).mono ?_); rintro e w2 ⟨rfl, hb⟩; have HB := Lib.hid (bn10 HB.out hb); clear hb)
          | (go_at_call 18; (with_reducible refine (rport_is HO.out (by omega) _).mono ?_); rintro e w' ⟨rfl, rfl⟩)
          | (go_at_call 19; (with_reducible refine (code_nil _).mono ?_); rintro e w' ⟨rfl, rfl⟩))
        go_ret
        exact ⟨rfl, HB.out⟩
      · have HO := Lib.hid ho
        clear ho
        go_enter Tryd.func5, Tryd.ntmps5
        go_wp2_with (first
          | (go_at_call 8; (with_reducible refine (awake10 HC.out).mono ?_); rintro e w1 ⟨rfl, hb⟩; have HB := Lib.hid hb; clear hb)
          | (go_at_call 17; (with_reducible refine (cport_no HC.out HO.out (by omega) (by omega) _ HB.out).mono ?_); rintro e w2 ⟨cs, u, x, rfl, hch, hb⟩; have HCh := Lib.hid hch; clear hch; have HB := Lib.hid (bn10 HB.out hb); clear hb)
          | (go_at_call 18; (with_reducible refine (rport_is HO.out (by omega) _).mono ?_); rintro e w' ⟨rfl, rfl⟩)
          | (go_at_call 19; (with_reducible refine (code_some cs 4 u x _ HCh.out (HG.out.below HB.out)).mono ?_); rintro e w3 ⟨rfl, hb⟩; have HB := Lib.hid (bn10 HB.out hb); clear hb))
        go_ret
        exact ⟨rfl, HB.out⟩
    · go_enter Tryd.func5, Tryd.ntmps5
      go_wp2_with (first
        | (go_at_call 8; (with_reducible refine (awake10 HC.out).mono ?_); rintro e w1 ⟨rfl, hb⟩; have HB := Lib.hid hb; clear hb))
      go_ret
      exact ⟨rfl, HB.out⟩
  · go_enter Tryd.func5, Tryd.ntmps5
    go_wp2_with (first
      | (go_at_call 8; (with_reducible refine (awake10 HC.out).mono ?_); rintro e w1 ⟨rfl, hb⟩; have HB := Lib.hid hb; clear hb))
    go_ret
    exact ⟨rfl, HB.out⟩
end Go.Proofs.YtcndcdkcbkjbaaaDoor

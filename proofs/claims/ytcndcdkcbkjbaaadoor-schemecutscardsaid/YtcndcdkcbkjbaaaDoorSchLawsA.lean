/-
  SchemeTells, SchemeCuts, SchemeBack, walked over the program's contracts: whatever the input, true (written by mkschlaws.py).
-/
import Derived.Test.YtcndcdkcbkjbaaaDoorSchCon
namespace Go.Proofs.YtcndcdkcbkjbaaaDoor
open Go.RowKit

theorem rdef_is {s : ByteArray} {b : Int} (h : def10 s.data.toList = b) (w : World) : Calls Tryd.prog 12 #[.string s] w fun e w' => e = .returned (.int .i64 b) ∧ w = w' := h ▸ refDefault_any s w
theorem rspec_is {s : ByteArray} {b : Bool} (h : spec10 s.data.toList = b) (w : World) : Calls Tryd.prog 10 #[.string s] w fun e w' => e = .returned (.bool b) ∧ w = w' := h ▸ refSpecial_any s w
theorem rcut_no {s : ByteArray} (h : cut10 s.data.toList = none) (hs : s.size ≤ 100000) (w : World) : Calls Tryd.prog 16 #[.string s] w fun e w' => e = .returned (.tuple #[.string ⟨#[]⟩, .string s, .bool false]) ∧ Below w.heap.size w w' := by
  have := refCut_any s w hs
  rw [h] at this
  exact this
theorem rcut_yes {s a b : ByteArray} (h : cut10 s.data.toList = some (a.data.toList, b.data.toList)) (hs : s.size ≤ 100000) (w : World) : Calls Tryd.prog 16 #[.string s] w fun e w' => e = .returned (.tuple #[.string a, .string b, .bool true]) ∧ Below w.heap.size w w' := by
  have := refCut_any s w hs
  rw [h] at this
  exact this
theorem rport_is {s t : ByteArray} {n : Int} {k : Nat} (h : port10 s.data.toList t.data.toList = (n, k)) (hs : s.size ≤ 100000) (w : World) : Calls Tryd.prog 18 #[.string s, .string t] w fun e w' => e = .returned (.tuple #[.int .i64 n, .int .i64 (k : Int)]) ∧ w = w' := by
  have := refPort_any s t w hs
  rw [h] at this
  exact this
set_option maxHeartbeats 2000000 in
set_option maxRecDepth 100000 in
theorem law_tells10 (s : ByteArray) (w : World) (hs : s.size ≤ maxLen) (C : SchC w) : Calls Tryd.prog 3 #[.string s] w (Yes10 w) := by
  unfold maxLen at hs
  have HC := Lib.hid C
  clear C
  by_cases h : s.size ≤ 80
  · obtain ⟨A, hA⟩ : ∃ A, spec10 s.data.toList = A := ⟨_, rfl⟩
    obtain ⟨N, hN⟩ : ∃ A, def10 s.data.toList = A := ⟨_, rfl⟩
    obtain ⟨M, hM⟩ : ∃ A, may10 s.data.toList = A := ⟨_, rfl⟩
    have HA := Lib.hid hA
    have HN := Lib.hid hN
    have HM := Lib.hid hM
    clear hA hN hM
    cases A <;> cases M
    all_goals
      go_enter Tryd.func3, Tryd.ntmps3
      go_wp2_with (first
        | (go_at_call 8; (with_reducible refine (awake10 HC.out).mono ?_); rintro e w1 ⟨rfl, hb⟩; have HB := Lib.hid hb; clear hb)
        | (go_at_call 9; (with_reducible refine (cspecial_is HC.out HA.out (by omega) _ HB.out).mono ?_); rintro e w2 ⟨rfl, hb⟩; have HB := Lib.hid (bn10 HB.out hb); clear hb)
        | (go_at_call 10; (with_reducible refine (rspec_is HA.out _).mono ?_); rintro e w' ⟨rfl, rfl⟩)
        | (go_at_call 11; (with_reducible refine (cdefault_is HC.out HN.out (by omega) _ HB.out).mono ?_); rintro e w3 ⟨rfl, hb⟩; have HB := Lib.hid (bn10 HB.out hb); clear hb)
        | (go_at_call 12; (with_reducible refine (rdef_is HN.out _).mono ?_); rintro e w' ⟨rfl, rfl⟩)
        | (go_at_call 13; (with_reducible refine (cmay_is HC.out HM.out (by omega) _ HB.out).mono ?_); rintro e w4 ⟨rfl, hb⟩; have HB := Lib.hid (bn10 HB.out hb); clear hb)
        | (go_at_call 14; (with_reducible refine (may_is HM.out (by omega) _).mono ?_); rintro e w' ⟨rfl, rfl⟩))
      go_ret
      exact ⟨rfl, HB.out⟩
  · go_enter Tryd.func3, Tryd.ntmps3
    go_wp2_with (first
      | (go_at_call 8; (with_reducible refine (awake10 HC.out).mono ?_); rintro e w1 ⟨rfl, hb⟩; have HB := Lib.hid hb; clear hb))
    go_ret
    exact ⟨rfl, HB.out⟩
set_option maxHeartbeats 2000000 in
set_option maxRecDepth 100000 in
theorem law_cuts10 (s : ByteArray) (w : World) (hs : s.size ≤ maxLen) (C : SchC w) : Calls Tryd.prog 4 #[.string s] w (Yes10 w) := by
  unfold maxLen at hs
  have HC := Lib.hid C
  clear C
  by_cases h : s.size ≤ 80
  · cases ho : cut10 s.data.toList with
    | none =>
      have HO := Lib.hid ho
      clear ho
      go_enter Tryd.func4, Tryd.ntmps4
      go_wp2_with (first
        | (go_at_call 8; (with_reducible refine (awake10 HC.out).mono ?_); rintro e w1 ⟨rfl, hb⟩; have HB := Lib.hid hb; clear hb)
        | (go_at_call 15; (with_reducible refine (ccut_no HC.out HO.out (by omega) _ HB.out).mono ?_); rintro e w2 ⟨rfl, hb⟩; have HB := Lib.hid (bn10 HB.out hb); clear hb)
        | (go_at_call 16; (with_reducible refine (rcut_no HO.out (by omega) _).mono ?_); rintro e w3 ⟨rfl, hb⟩; have HB := Lib.hid (bn10 HB.out hb); clear hb))
      go_ret
      exact ⟨rfl, HB.out⟩
    | some o =>
      obtain ⟨a, b⟩ := o
      obtain ⟨x, rfl⟩ : ∃ x : ByteArray, x.data.toList = a := ⟨txt10 a, rfl⟩
      obtain ⟨y, rfl⟩ : ∃ x : ByteArray, x.data.toList = b := ⟨txt10 b, rfl⟩
      have HO := Lib.hid ho
      clear ho
      go_enter Tryd.func4, Tryd.ntmps4
      go_wp2_with (first
        | (go_at_call 8; (with_reducible refine (awake10 HC.out).mono ?_); rintro e w1 ⟨rfl, hb⟩; have HB := Lib.hid hb; clear hb)
        | (go_at_call 15; (with_reducible refine (ccut_yes HC.out HO.out (by omega) _ HB.out).mono ?_); rintro e w2 ⟨rfl, hb⟩; have HB := Lib.hid (bn10 HB.out hb); clear hb)
        | (go_at_call 16; (with_reducible refine (rcut_yes HO.out (by omega) _).mono ?_); rintro e w3 ⟨rfl, hb⟩; have HB := Lib.hid (bn10 HB.out hb); clear hb))
      go_ret
      exact ⟨rfl, HB.out⟩
  · go_enter Tryd.func4, Tryd.ntmps4
    go_wp2_with (first
      | (go_at_call 8; (with_reducible refine (awake10 HC.out).mono ?_); rintro e w1 ⟨rfl, hb⟩; have HB := Lib.hid hb; clear hb))
    go_ret
    exact ⟨rfl, HB.out⟩
set_option maxHeartbeats 2000000 in
set_option maxRecDepth 100000 in
theorem law_back10 (s t : ByteArray) (w : World) (hs : s.size ≤ maxLen) (ht : t.size ≤ maxLen) (C : SchC w) : Calls Tryd.prog 6 #[.string s, .string t] w (Yes10 w) := by
  unfold maxLen at hs ht
  have HC := Lib.hid C
  clear C
  by_cases h : s.size ≤ 80
  · by_cases h' : t.size ≤ 80
    · cases hm : may10 s.data.toList with
      | false =>
        have HM := Lib.hid hm
        clear hm
        go_enter Tryd.func6, Tryd.ntmps6
        go_wp2_with (first
          | (go_at_call 8; (with_reducible refine (awake10 HC.out).mono ?_); rintro e w1 ⟨rfl, hb⟩; have HB := Lib.hid hb; clear hb)
          | (go_at_call 13; (with_reducible refine (cmay_is HC.out HM.out (by omega) _ HB.out).mono ?_); rintro e w2 ⟨rfl, hb⟩; have HB := Lib.hid (bn10 HB.out hb); clear hb))
        go_ret
        exact ⟨rfl, HB.out⟩
      | true =>
        have HM := Lib.hid hm
        obtain ⟨a, ha⟩ : ∃ a : ByteArray, small10 s.data.toList = a.data.toList := ⟨txt10 (small10 s.data.toList), rfl⟩
        have has : a.size = s.size := by
          have h1 := small10_len s.data.toList
          rw [ha, len10, len10] at h1
          exact h1
        have e1 : ∀ x y : ByteArray, (x ++ ⟨#[58]⟩ ++ y).data.toList = x.data.toList ++ 58 :: y.data.toList := fun x y => by
          simp [ByteArray.data_append, Array.toList_append]
        have HK1 : Hid (cut10 (s ++ ⟨#[58]⟩ ++ t).data.toList = some (a.data.toList, t.data.toList)) := by
          show cut10 _ = _
          rw [e1, cut10_back _ hm, ha]
        have HK2 : Hid (cut10 (a ++ ⟨#[58]⟩ ++ t).data.toList = some (a.data.toList, t.data.toList)) := by
          show cut10 _ = _
          rw [e1, cut10_back _ (by rw [← ha, may10_small]; exact hm), ← ha, small10_once]
        have HZ1 : Hid ((s ++ ⟨#[58]⟩ ++ t).size ≤ 200) := by
          show _ ≤ _
          rw [ByteArray.size_append, ByteArray.size_append]
          show s.size + 1 + t.size ≤ 200
          omega
        have HZ2 : Hid ((a ++ ⟨#[58]⟩ ++ t).size ≤ 200) := by
          show _ ≤ _
          rw [ByteArray.size_append, ByteArray.size_append]
          show a.size + 1 + t.size ≤ 200
          omega
        have HSm := Lib.hid (fun w => small_is ha (by omega) w)
        have HM2 := Lib.hid (show may10 a.data.toList = true by rw [← ha, may10_small]; exact hm)
        have haz : a.size ≤ 200 := by omega
        cases hsp : spec10 s.data.toList with
        | true =>
          obtain rfl : a = s := ByteArray.ext (Array.toList_inj.1 (by rw [← ha]; exact spec10_small hsp))
          clear hm ha has e1 hsp
          go_enter Tryd.func6, Tryd.ntmps6
          go_wp2_with (first
            | (go_at_call 8; (with_reducible refine (awake10 HC.out).mono ?_); rintro e w1 ⟨rfl, hb⟩; have HB := Lib.hid hb; clear hb)
            | (go_at_call 13; (with_reducible refine (cmay_is HC.out HM.out (by omega) _ HB.out).mono ?_); rintro e w2 ⟨rfl, hb⟩; have HB := Lib.hid (bn10 HB.out hb); clear hb)
            | (go_at_call 15; (with_reducible refine (ccut_yes HC.out HK1.out HZ1.out _ HB.out).mono ?_); rintro e w3 ⟨rfl, hb⟩; have HB := Lib.hid (bn10 HB.out hb); clear hb)
            | (go_at_call 20; (with_reducible refine (HSm.out _).mono ?_); rintro e w4 ⟨rfl, hb⟩; have HB := Lib.hid (bn10 HB.out hb); clear hb))
          go_ret
          exact ⟨rfl, HB.out⟩
        | false =>
          have HSp := Lib.hid hsp
          obtain ⟨E, hE⟩ : ∃ E, (a.toList == s.toList) = E := ⟨_, rfl⟩
          clear hm ha has e1 hsp
          cases E
          all_goals
            go_enter Tryd.func6, Tryd.ntmps6
            go_wp2_with (first
              | (go_at_call 8; (with_reducible refine (awake10 HC.out).mono ?_); rintro e w1 ⟨rfl, hb⟩; have HB := Lib.hid hb; clear hb)
              | (go_at_call 13; (with_reducible refine (cmay_is HC.out HM.out (by omega) _ HB.out).mono ?_); rintro e w2 ⟨rfl, hb⟩; have HB := Lib.hid (bn10 HB.out hb); clear hb)
              | (go_at_call 15; (with_reducible refine (ccut_yes HC.out HK1.out HZ1.out _ HB.out).mono ?_); rintro e w3 ⟨rfl, hb⟩; have HB := Lib.hid (bn10 HB.out hb); clear hb)
              | (go_at_call 15; (with_reducible refine (ccut_yes HC.out HK2.out HZ2.out _ HB.out).mono ?_); rintro e w4 ⟨rfl, hb⟩; have HB := Lib.hid (bn10 HB.out hb); clear hb)
              | (go_at_call 20; (with_reducible refine (HSm.out _).mono ?_); rintro e w5 ⟨rfl, hb⟩; have HB := Lib.hid (bn10 HB.out hb); clear hb)
              | (go_at_call 13; (with_reducible refine (cmay_is HC.out HM2.out haz _ HB.out).mono ?_); rintro e w6 ⟨rfl, hb⟩; have HB := Lib.hid (bn10 HB.out hb); clear hb)
              | (go_at_call 9; (with_reducible refine (cspecial_is HC.out HSp.out (by omega) _ HB.out).mono ?_); rintro e w7 ⟨rfl, hb⟩; have HB := Lib.hid (bn10 HB.out hb); clear hb))
            go_ret
            exact ⟨rfl, HB.out⟩
    · go_enter Tryd.func6, Tryd.ntmps6
      go_wp2_with (first
        | (go_at_call 8; (with_reducible refine (awake10 HC.out).mono ?_); rintro e w1 ⟨rfl, hb⟩; have HB := Lib.hid hb; clear hb))
      go_ret
      exact ⟨rfl, HB.out⟩
  · go_enter Tryd.func6, Tryd.ntmps6
    go_wp2_with (first
      | (go_at_call 8; (with_reducible refine (awake10 HC.out).mono ?_); rintro e w1 ⟨rfl, hb⟩; have HB := Lib.hid hb; clear hb))
    go_ret
    exact ⟨rfl, HB.out⟩
end Go.Proofs.YtcndcdkcbkjbaaaDoor

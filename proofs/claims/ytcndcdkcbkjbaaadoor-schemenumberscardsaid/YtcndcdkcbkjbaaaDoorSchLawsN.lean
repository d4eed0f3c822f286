/-
  SchemeNumbers, walked over the program's contracts: whatever the input, true (written by mkschlaws.py).
-/
import Derived.Test.YtcndcdkcbkjbaaaDoorSchLawsA
import Derived.Test.YtcndcdkcbkjbaaaDoorSchNum
namespace Go.Proofs.YtcndcdkcbkjbaaaDoor
open Go.RowKit
set_option maxHeartbeats 2000000 in
set_option maxRecDepth 100000 in
theorem law_numbers10 (v : Int) (s : ByteArray) (w : World) (h0 : 0 ≤ v) (h1 : v ≤ 65535) (hs : s.size ≤ maxLen) (C : SchC w) : Calls Tryd.prog 7 #[.int .u16 v, .string s] w (Yes10 w) := by
  obtain ⟨n, rfl⟩ : ∃ n : Nat, v = n := ⟨v.toNat, by omega⟩
  have hn : n < 65536 := by omega
  unfold maxLen at hs
  have HC := Lib.hid C
  clear C
  by_cases h : s.size ≤ 80
  · obtain ⟨d, hd⟩ : ∃ d, def10 s.data.toList = d := ⟨_, rfl⟩
    have HD := Lib.hid hd
    obtain ⟨v1, f1, n1⟩ := dcm10_any n
    obtain ⟨v3, f3, n3⟩ := dcm10_any (65536 + n)
    have l1 := dcm10_len 4 n (by omega)
    have l3 := dcm10_len 5 (65536 + n) (by omega)
    obtain ⟨t, ht⟩ : ∃ t, txt10 (dcm10 n) = t := ⟨_, rfl⟩
    obtain ⟨u, hu⟩ : ∃ t, txt10 (dcm10 (65536 + n)) = t := ⟨_, rfl⟩
    have etl : t.data.toList = dcm10 n := by rw [← ht]; rfl
    have eul : u.data.toList = dcm10 (65536 + n) := by rw [← hu]; rfl
    have HN1 := Lib.hid (fun w => num_is10 ht (by omega) w)
    have HN2 : Hid (∀ w, Calls Tryd.prog 21 #[.int .i64 (65536 + (n : Int))] w fun e w' => e = .returned (.string u) ∧ Below w.heap.size w w') := by
      show ∀ w, _
      intro w
      have := num_is10 hu (by omega) w
      rw [show ((65536 + n : Nat) : Int) = 65536 + (n : Int) by omega] at this
      exact this
    have e2 : ((⟨#[48, 48]⟩ : ByteArray) ++ t).data.toList = 48 :: 48 :: dcm10 n := by
      rw [ByteArray.data_append, Array.toList_append, etl]; rfl
    have hp1 : port10 t.data.toList s.data.toList = if (n : Int) = d then (-1, 0) else ((n : Int), 0) := by
      rw [etl, port10_num _ v1 f1 n1, if_neg (by omega), hd]
    have hp2 : port10 ((⟨#[48, 48]⟩ : ByteArray) ++ t).data.toList s.data.toList = if (n : Int) = d then (-1, 0) else ((n : Int), 0) := by
      rw [e2, port10_num (n := n) _ (by rw [val10_zero, val10_zero]; exact v1) (by rw [List.all_cons, List.all_cons, f1]; rfl) (by simp), if_neg (by omega), hd]
    have HP3 : Hid (port10 u.data.toList s.data.toList = (0, 4)) := by
      show port10 _ _ = _
      rw [eul, port10_num _ v3 f3 n3, if_pos (by omega)]
    have HZ1 : Hid (t.size ≤ 200) := by
      show t.size ≤ 200
      rw [← len10, etl]; omega
    have HZ2 : Hid (((⟨#[48, 48]⟩ : ByteArray) ++ t).size ≤ 200) := by
      show _ ≤ 200
      rw [← len10, e2]; simp; omega
    have HZ3 : Hid (u.size ≤ 200) := by
      show u.size ≤ 200
      rw [← len10, eul]; omega
    have hz1 : t.size ≤ 200 := HZ1.out
    clear v1 f1 n1 v3 f3 n3 l1 l3 ht hu etl eul e2 hd
    by_cases he : (n : Int) = d
    · rw [if_pos he] at hp1 hp2
      have HP1 := Lib.hid hp1
      have HP2 := Lib.hid hp2
      have hb : ((n : Int) == d) = true := beq_iff_eq.2 he
      clear hp1 hp2 he
      go_enter Tryd.func7, Tryd.ntmps7
      go_wp2_with (first
        | (go_at_call 8; (with_reducible refine (awake10 HC.out).mono ?_); rintro e w1 ⟨rfl, hb⟩; have HB := Lib.hid hb; clear hb)
        | (go_at_call 21; (with_reducible refine (HN1.out _).mono ?_); rintro e w2 ⟨rfl, hb⟩; have HB := Lib.hid (bn10 HB.out hb); clear hb)
        | (go_at_call 17; (with_reducible refine (cport_ok HC.out HP1.out HZ1.out (by omega) _ HB.out).mono ?_); rintro e w3 ⟨rfl, hb⟩; have HB := Lib.hid (bn10 HB.out hb); clear hb)
        | (go_at_call 17; (with_reducible refine (cport_ok HC.out HP2.out HZ2.out (by omega) _ HB.out).mono ?_); rintro e w4 ⟨rfl, hb⟩; have HB := Lib.hid (bn10 HB.out hb); clear hb)
        | (go_at_call 21; (with_reducible refine (HN2.out _).mono ?_); rintro e w5 ⟨rfl, hb⟩; have HB := Lib.hid (bn10 HB.out hb); clear hb)
        | (go_at_call 17; (with_reducible refine (cport_no HC.out HP3.out HZ3.out (by omega) _ HB.out).mono ?_); rintro e w6 ⟨cs, u, x, rfl, hch, hb⟩; clear hch; have HB := Lib.hid (bn10 HB.out hb); clear hb)
        | (go_at_call 12; (with_reducible refine (rdef_is HD.out _).mono ?_); rintro e w' ⟨rfl, rfl⟩))
      go_ret
      exact ⟨rfl, HB.out⟩
    · rw [if_neg he] at hp1 hp2
      have HP1 := Lib.hid hp1
      have HP2 := Lib.hid hp2
      have hb : ((n : Int) == d) = false := beq_eq_false_iff_ne.2 he
      clear hp1 hp2 he
      go_enter Tryd.func7, Tryd.ntmps7
      go_wp2_with (first
        | (go_at_call 8; (with_reducible refine (awake10 HC.out).mono ?_); rintro e w1 ⟨rfl, hb⟩; have HB := Lib.hid hb; clear hb)
        | (go_at_call 21; (with_reducible refine (HN1.out _).mono ?_); rintro e w2 ⟨rfl, hb⟩; have HB := Lib.hid (bn10 HB.out hb); clear hb)
        | (go_at_call 17; (with_reducible refine (cport_ok HC.out HP1.out HZ1.out (by omega) _ HB.out).mono ?_); rintro e w3 ⟨rfl, hb⟩; have HB := Lib.hid (bn10 HB.out hb); clear hb)
        | (go_at_call 17; (with_reducible refine (cport_ok HC.out HP2.out HZ2.out (by omega) _ HB.out).mono ?_); rintro e w4 ⟨rfl, hb⟩; have HB := Lib.hid (bn10 HB.out hb); clear hb)
        | (go_at_call 21; (with_reducible refine (HN2.out _).mono ?_); rintro e w5 ⟨rfl, hb⟩; have HB := Lib.hid (bn10 HB.out hb); clear hb)
        | (go_at_call 17; (with_reducible refine (cport_no HC.out HP3.out HZ3.out (by omega) _ HB.out).mono ?_); rintro e w6 ⟨cs, u, x, rfl, hch, hb⟩; clear hch; have HB := Lib.hid (bn10 HB.out hb); clear hb)
        | (go_at_call 12; (with_reducible refine (rdef_is HD.out _).mono ?_); rintro e w' ⟨rfl, rfl⟩))
      go_ret
      exact ⟨rfl, HB.out⟩
  · go_enter Tryd.func7, Tryd.ntmps7
    go_wp2_with (first
      | (go_at_call 8; (with_reducible refine (awake10 HC.out).mono ?_); rintro e w1 ⟨rfl, hb⟩; have HB := Lib.hid hb; clear hb))
    go_ret
    exact ⟨rfl, HB.out⟩
end Go.Proofs.YtcndcdkcbkjbaaaDoor

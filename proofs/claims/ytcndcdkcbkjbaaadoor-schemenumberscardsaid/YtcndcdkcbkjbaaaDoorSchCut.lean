/-
  The document's Cut of layer 10, by its contract.
-/
import Derived.Test.YtcndcdkcbkjbaaaDoorSchSmall
import Derived.Deep.RegionHeld3
namespace Go.Proofs.YtcndcdkcbkjbaaaDoor
open Go.RowKit

/-- A scheme in small letters, what is behind the colon, and true; or nothing, the text, and false. -/
def Cut10 (o : Option (List UInt8 × List UInt8)) (s : ByteArray) (w : World) (e : Ending) (w' : World) : Prop := match o with
  | none => e = .returned (.tuple #[.string ⟨#[]⟩, .string s, .bool false]) ∧ Below w.heap.size w w'
  | some (a, b) => e = .returned (.tuple #[.string (txt10 a), .string (txt10 b), .bool true]) ∧ Below w.heap.size w w'
theorem pre10 (s : ByteArray) (k : Nat) : (s.extract 0 k).data.toList = s.data.toList.take k := by
  simp [ByteArray.data_extract]
theorem suf10 (s : ByteArray) (k : Nat) : (s.extract k s.size).data.toList = s.data.toList.drop k := by
  simp only [ByteArray.data_extract, Array.toList_extract, List.extract_eq_take_drop]
  exact List.take_of_length_le (by simp)
theorem pre10_size (s : ByteArray) (k : Nat) : (s.extract 0 k).size ≤ s.size := by simp; omega

theorem bd10 {w w1 : World} (h : Below w.drew.heap.size w.drew w1) : Below w.heap.size w w1 := (below_drewN (Below.refl _ w) 1).trans h
set_option maxHeartbeats 2000000 in
set_option maxRecDepth 100000 in
theorem refCut_any (s : ByteArray) (w : World) (hs : s.size ≤ 100000) : Calls Tryd.prog 16 #[.string s] w (Cut10 (cut10 s.data.toList) s w) := by
  obtain ⟨o, ho⟩ : ∃ o, cut10 s.data.toList = o := ⟨_, rfl⟩
  have HO := Lib.hid ho
  rw [ho]
  clear ho
  go_enter Tryd.func16, Tryd.ntmps16
  go_wp2
  go_loop [5] (fun i => ∃ k : Nat, k ≤ s.size ∧ i = .int .i64 k ∧ ∀ c ∈ s.data.toList.take k, c ≠ 58) (fun i => s.size - (intOf i).toNat)
  case atStart => exact ⟨0, Nat.zero_le _, rfl, by simp⟩
  case round =>
    obtain ⟨k, hk, rfl, hp⟩ := hrel
    have HP := Lib.hid hp
    clear hp
    by_cases hlt : k < s.size
    · have hu := (s[k]'hlt).toNat_lt
      have hll : k < s.data.toList.length := by rw [len10]; exact hlt
      by_cases h58 : s[k]'hlt = 58
      · have he : (((s[k]'hlt).toNat : Int) == 58) = true := by rw [h58]; rfl
        have h58' : s.data.toList[k]'hll = 58 := h58
        obtain ⟨p, hpp⟩ : ∃ p, s.extract 0 k = p := ⟨_, rfl⟩
        have hpl : p.data.toList = s.data.toList.take k := by rw [← hpp]; exact pre10 s k
        have hps : p.size ≤ 100000 := by rw [← hpp]; have := pre10_size s k; omega
        cases hm : may10 p.data.toList with
        | false =>
          have HC := Lib.hid (fun w => may_is hm hps w)
          have HN := Lib.hid (cut10_no hll h58' HP.out (by rw [← hpl]; exact hm))
          have HN := Lib.hid (HO.out.symm.trans HN.out)
          clear hm h58 h58' hpl hll
          go_wp2_with (go_at_call 14; (with_reducible refine (HC.out _).mono ?_); rintro e w' ⟨rfl, rfl⟩)
          refine bodyPost_ret (v := .tuple #[.string ⟨#[]⟩, .string s, .bool false]) (by simp [results, Tryd.results16, go_sem]) rfl ?_
          rw [HN.out]
          exact ⟨rfl, Below.refl _ _⟩
        | true =>
          have HC := Lib.hid (fun w => may_is hm hps w)
          have HN := Lib.hid (cut10_yes hll h58' HP.out (by rw [← hpl]; exact hm))
          have HN := HN.out
          obtain ⟨t, ht⟩ : ∃ t : ByteArray, small10 p.data.toList = t.data.toList := ⟨txt10 (small10 p.data.toList), rfl⟩
          have HS := Lib.hid (fun w => small_is ht hps w)
          rw [← hpl, ht, ← suf10, HO.out] at HN
          have HN := Lib.hid HN
          clear hm h58 h58' hpl hll ht
          go_wp2_with (go_at_call 14; (with_reducible refine (HC.out _).mono ?_); rintro e w' ⟨rfl, rfl⟩)
          have hw1 : IntKind.i64.wrap ((k : Int) + 1) = (k : Int) + 1 := IntWalk.i64_in _ (by omega)
          have ht1 : ((k : Int) + 1).toNat = k + 1 := by omega
          have hb1 : (0 : Int) ≤ (k : Int) + 1 := by omega
          have hb2 : (k : Int) + 1 ≤ (s.size : Int) := by omega
          go_region_held3 (fun _ => True) (trivial) (first
            | (go_at_call 20; (with_reducible refine (HS.out _).mono ?_); rintro e w1 ⟨rfl, hb⟩))
          all_goals
            go_wp2
            refine bodyPost_ret (v := .tuple #[.string t, .string (s.extract (k + 1) s.size), .bool true]) (by simp [results, Tryd.results16, go_sem]) rfl ?_
            rw [HN.out]
            exact ⟨rfl, bd10 hb⟩
      · have he : (((s[k]'hlt).toNat : Int) == 58) = false := beq_eq_false_iff_ne.2 (fun e => h58 (UInt8.toNat_inj.1 (by show _ = 58; omega)))
        have HN : Hid (∀ c ∈ s.data.toList.take (k + 1), c ≠ 58) := by
          show ∀ c ∈ s.data.toList.take (k + 1), c ≠ 58
          rw [List.take_succ_eq_append_getElem hll]
          intro c hc
          rcases List.mem_append.1 hc with hc | hc
          · exact HP.out c hc
          · rw [List.mem_singleton.1 hc]; exact h58
        clear h58 hll
        go_wp2
        go_round
        case rel => exact ⟨k + 1, by omega, by go_num, HN.out⟩
        case measure => simp [intOf]; omega
    · have HN := Lib.hid (cut10_none (l := s.data.toList) (by have := HP.out; rw [List.take_of_length_le (by rw [len10]; omega)] at this; exact this))
      have HN := Lib.hid (HO.out.symm.trans HN.out)
      go_wp2
      refine bodyPost_ret (v := .tuple #[.string ⟨#[]⟩, .string s, .bool false]) (by simp [results, Tryd.results16, go_sem]) rfl ?_
      rw [HN.out]
      exact ⟨rfl, Below.refl _ _⟩
end Go.Proofs.YtcndcdkcbkjbaaaDoor

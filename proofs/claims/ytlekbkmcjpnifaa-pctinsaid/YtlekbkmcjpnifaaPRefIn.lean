/-
  The document's one, In, figure, Value, by their contracts.
-/
import Derived.Test.YtlekbkmcjpnifaaPRune
namespace Go.Proofs.Ytlekbkmcjpnifaa
open Go.RowKit

theorem amid_take_succ {l : List UInt8} {k : Nat} {c : Int} (h : k < l.length) : amid (l.take (k + 1)) c = (amid (l.take k) c || decide (c = (l[k].toNat : Int))) := by
  unfold amid
  rw [List.take_succ_eq_append_getElem h, List.any_append]
  simp
theorem amid_take {l : List UInt8} {k : Nat} {c : Int} (h : amid (l.take k) c = true) : amid l c = true := by
  unfold amid at h ⊢
  obtain ⟨b, hb, he⟩ := List.any_eq_true.1 h
  exact List.any_eq_true.2 ⟨b, List.mem_of_mem_take hb, he⟩

set_option maxHeartbeats 400000 in
theorem one_any (c : Int) (s : ByteArray) (w : World) (hs : s.size ≤ 2000) :
    Calls Try.prog 19 #[.int .i32 c, .string s] w fun e w' => e = .returned (.bool (amid s.data.toList c)) ∧ w = w' := by
  go_enter Try.func19, Try.ntmps19
  go_wp2
  go_loopw [5] (fun i wr => ∃ k : Nat, k ≤ s.size ∧ i = .int .i64 k ∧ wr = w ∧ amid (s.data.toList.take k) c = false) (fun i _ => s.size - (intOf i).toNat)
  case atStart => exact ⟨0, Nat.zero_le _, rfl, rfl, rfl⟩
  case round =>
    obtain ⟨k, hk, rfl, rfl, hm⟩ := hrel
    have HM := Lib.hid hm
    clear hm
    by_cases hlt : k < s.size
    · have hl : k < s.data.toList.length := by simpa using hlt
      have HT := Lib.hid (amid_take_succ (c := c) hl)
      have hu := (s[k]'hlt).toNat_lt
      by_cases he : c = ((s[k]'hlt).toNat : Int)
      · have hd : (c == ((s[k]'hlt).toNat : Int)) = true := by simpa using he
        have HR : Hid (amid s.data.toList c = true) := by
          refine amid_take (k := k + 1) ?_
          rw [HT.out]
          have : decide (c = ((s.data.toList[k]'hl).toNat : Int)) = true := decide_eq_true he
          rw [this, Bool.or_true]
        clear he
        go_wp2
        go_ret
        exact ⟨ret_bool HR.out.symm, rfl⟩
      · have hd : (c == ((s[k]'hlt).toNat : Int)) = false := by simpa using he
        have HR : Hid (amid (s.data.toList.take (k + 1)) c = false) := by
          show amid (s.data.toList.take (k + 1)) c = false
          rw [HT.out, HM.out]
          have : decide (c = ((s.data.toList[k]'hl).toNat : Int)) = false := decide_eq_false he
          rw [this]; rfl
        clear he
        go_wp2
        go_roundw
        case rel => exact ⟨k + 1, by omega, by go_num, by first | rfl | trivial, HR.out⟩
        case measure => simp [intOf]; omega
    · have HR : Hid (amid s.data.toList c = false) := by
        have := HM.out
        rw [List.take_of_length_le (by simp; omega)] at this
        exact this
      go_wp2
      go_ret
      exact ⟨ret_bool HR.out.symm, rfl⟩

theorem figure_any (n : Nat) (w : World) (h : n < 16) :
    Calls Try.prog 25 #[.int .u8 (n : Int)] w fun e w' => e = .returned (.int .u8 ((fig n).toNat : Int)) ∧ w' = w := by
  go_enter Try.func25, Try.ntmps25
  go_wp2
  all_goals
    go_ret
    refine ⟨ret_int ?_, rfl⟩
    unfold fig
    first
    | (rw [if_pos (by omega)]; simp; omega)
    | (rw [if_neg (by omega)]; simp; omega)

theorem value3_any (c : Int) (w : World) (h0 : 0 ≤ c) (h1 : c ≤ 255) :
    Calls Try.prog 28 #[.int .u8 c] w fun e w' => e = .returned (.int .i64 (val c)) ∧ w' = w := by
  go_enter Try.func28, Try.ntmps28
  go_wp2
  all_goals
    go_ret
    refine ⟨ret_int ?_, rfl⟩
    unfold val
    repeat' split
    all_goals omega
end Go.Proofs.Ytlekbkmcjpnifaa

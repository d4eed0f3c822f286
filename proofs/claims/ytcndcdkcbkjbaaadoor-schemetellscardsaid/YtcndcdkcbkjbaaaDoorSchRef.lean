/-
  The document's Default, Special and May of layer 10, by their contracts (written by mkschref.py).
-/
import Derived.Test.YtcndcdkcbkjbaaaDoorSchMath
import Derived.Test.YtcndcdkcbkjbaaaDoorRef3
namespace Go.Proofs.YtcndcdkcbkjbaaaDoor
open Go.RowKit

def txt10 (l : List UInt8) : ByteArray := ⟨l.toArray⟩
theorem txt10_list (l : List UInt8) : (txt10 l).data.toList = l := rfl
theorem txt10_of (s : ByteArray) : txt10 s.data.toList = s := rfl
theorem txt10_size (l : List UInt8) : (txt10 l).size = l.length := by show l.toArray.size = _; simp
theorem len10 (s : ByteArray) : s.data.toList.length = s.size := by simp
theorem name10 {s : ByteArray} {l : List UInt8} (h : s.data.toList = l) : s = txt10 l := by rw [← h]; rfl
def Bool10 (b : Bool) (w : World) (e : Ending) (w' : World) : Prop := e = .returned (.bool b) ∧ w = w'
theorem text10_ne {s t : ByteArray} (h : ¬ s = t) : (s.toList == t.data.toList) = false := by
  rw [beq_eq_false_iff_ne, ByteArray.toList_eq]
  exact fun e => h (ByteArray.ext (Array.toList_inj.1 e))
/-- No name of six. -/
structure None10 (s : ByteArray) : Prop where
  nftp : (s.toList == [102, 116, 112]) = false
  nfile : (s.toList == [102, 105, 108, 101]) = false
  nhttp : (s.toList == [104, 116, 116, 112]) = false
  nhttps : (s.toList == [104, 116, 116, 112, 115]) = false
  nws : (s.toList == [119, 115]) = false
  nwss : (s.toList == [119, 115, 115]) = false
theorem six10 (s : ByteArray) : s = ⟨#[102, 116, 112]⟩ ∨ s = ⟨#[102, 105, 108, 101]⟩ ∨ s = ⟨#[104, 116, 116, 112]⟩ ∨ s = ⟨#[104, 116, 116, 112, 115]⟩ ∨ s = ⟨#[119, 115]⟩ ∨ s = ⟨#[119, 115, 115]⟩ ∨ None10 s := by
  by_cases hftp : s = ⟨#[102, 116, 112]⟩
  · exact (.inl hftp)
  by_cases hfile : s = ⟨#[102, 105, 108, 101]⟩
  · exact (.inr (.inl hfile))
  by_cases hhttp : s = ⟨#[104, 116, 116, 112]⟩
  · exact (.inr (.inr (.inl hhttp)))
  by_cases hhttps : s = ⟨#[104, 116, 116, 112, 115]⟩
  · exact (.inr (.inr (.inr (.inl hhttps))))
  by_cases hws : s = ⟨#[119, 115]⟩
  · exact (.inr (.inr (.inr (.inr (.inl hws)))))
  by_cases hwss : s = ⟨#[119, 115, 115]⟩
  · exact (.inr (.inr (.inr (.inr (.inr (.inl hwss))))))
  exact .inr (.inr (.inr (.inr (.inr (.inr ⟨text10_ne hftp, text10_ne hfile, text10_ne hhttp, text10_ne hhttps, text10_ne hws, text10_ne hwss⟩)))))
theorem None10.list {s : ByteArray} (h : None10 s) : s.data.toList ≠ ftp10 ∧ s.data.toList ≠ file10 ∧ s.data.toList ≠ http10 ∧ s.data.toList ≠ https10 ∧ s.data.toList ≠ ws10 ∧ s.data.toList ≠ wss10 := by
  refine ⟨fun e => ?_, fun e => ?_, fun e => ?_, fun e => ?_, fun e => ?_, fun e => ?_⟩
  · have := h.nftp; rw [ByteArray.toList_eq, e] at this; exact absurd this (by decide)
  · have := h.nfile; rw [ByteArray.toList_eq, e] at this; exact absurd this (by decide)
  · have := h.nhttp; rw [ByteArray.toList_eq, e] at this; exact absurd this (by decide)
  · have := h.nhttps; rw [ByteArray.toList_eq, e] at this; exact absurd this (by decide)
  · have := h.nws; rw [ByteArray.toList_eq, e] at this; exact absurd this (by decide)
  · have := h.nwss; rw [ByteArray.toList_eq, e] at this; exact absurd this (by decide)

theorem refDefault_ftp (w : World) : Calls Tryd.prog 12 #[.string ⟨#[102, 116, 112]⟩] w fun e w' => e = .returned (.int .i64 (21)) ∧ w = w' := by
  go_enter Tryd.func12, Tryd.ntmps12
  go_wp2
  go_ret
  exact ⟨rfl, rfl⟩

theorem refDefault_file (w : World) : Calls Tryd.prog 12 #[.string ⟨#[102, 105, 108, 101]⟩] w fun e w' => e = .returned (.int .i64 (-1)) ∧ w = w' := by
  go_enter Tryd.func12, Tryd.ntmps12
  go_wp2
  go_ret
  exact ⟨rfl, rfl⟩

theorem refDefault_http (w : World) : Calls Tryd.prog 12 #[.string ⟨#[104, 116, 116, 112]⟩] w fun e w' => e = .returned (.int .i64 (80)) ∧ w = w' := by
  go_enter Tryd.func12, Tryd.ntmps12
  go_wp2
  go_ret
  exact ⟨rfl, rfl⟩

theorem refDefault_https (w : World) : Calls Tryd.prog 12 #[.string ⟨#[104, 116, 116, 112, 115]⟩] w fun e w' => e = .returned (.int .i64 (443)) ∧ w = w' := by
  go_enter Tryd.func12, Tryd.ntmps12
  go_wp2
  go_ret
  exact ⟨rfl, rfl⟩

theorem refDefault_ws (w : World) : Calls Tryd.prog 12 #[.string ⟨#[119, 115]⟩] w fun e w' => e = .returned (.int .i64 (80)) ∧ w = w' := by
  go_enter Tryd.func12, Tryd.ntmps12
  go_wp2
  go_ret
  exact ⟨rfl, rfl⟩

theorem refDefault_wss (w : World) : Calls Tryd.prog 12 #[.string ⟨#[119, 115, 115]⟩] w fun e w' => e = .returned (.int .i64 (443)) ∧ w = w' := by
  go_enter Tryd.func12, Tryd.ntmps12
  go_wp2
  go_ret
  exact ⟨rfl, rfl⟩

theorem refDefault_no (s : ByteArray) (h : None10 s) (w : World) : Calls Tryd.prog 12 #[.string s] w fun e w' => e = .returned (.int .i64 (-1)) ∧ w = w' := by
  obtain ⟨h1, h2, h3, h4, h5, h6⟩ := h
  go_enter Tryd.func12, Tryd.ntmps12
  go_wp2
  go_ret
  exact ⟨rfl, rfl⟩
theorem refDefault_any (s : ByteArray) (w : World) : Calls Tryd.prog 12 #[.string s] w fun e w' => e = .returned (.int .i64 (def10 s.data.toList)) ∧ w = w' := by
  rcases six10 s with rfl | rfl | rfl | rfl | rfl | rfl | h
  · exact refDefault_ftp w
  · exact refDefault_file w
  · exact refDefault_http w
  · exact refDefault_https w
  · exact refDefault_ws w
  · exact refDefault_wss w
  · obtain ⟨h1, h2, h3, h4, h5, h6⟩ := h.list
    have e : def10 s.data.toList = -1 := by
      unfold def10
      rw [if_neg h1, if_neg (by rintro (h | h); exact h3 h; exact h5 h), if_neg (by rintro (h | h); exact h4 h; exact h6 h)]
    rw [e]
    exact refDefault_no s h w

theorem refSpecial_ftp (w : World) : Calls Tryd.prog 10 #[.string ⟨#[102, 116, 112]⟩] w fun e w' => e = .returned (.bool true) ∧ w = w' := by
  go_enter Tryd.func10, Tryd.ntmps10
  go_wp2
  go_ret
  exact ⟨rfl, rfl⟩

theorem refSpecial_file (w : World) : Calls Tryd.prog 10 #[.string ⟨#[102, 105, 108, 101]⟩] w fun e w' => e = .returned (.bool true) ∧ w = w' := by
  go_enter Tryd.func10, Tryd.ntmps10
  go_wp2
  go_ret
  exact ⟨rfl, rfl⟩

theorem refSpecial_http (w : World) : Calls Tryd.prog 10 #[.string ⟨#[104, 116, 116, 112]⟩] w fun e w' => e = .returned (.bool true) ∧ w = w' := by
  go_enter Tryd.func10, Tryd.ntmps10
  go_wp2
  go_ret
  exact ⟨rfl, rfl⟩

theorem refSpecial_https (w : World) : Calls Tryd.prog 10 #[.string ⟨#[104, 116, 116, 112, 115]⟩] w fun e w' => e = .returned (.bool true) ∧ w = w' := by
  go_enter Tryd.func10, Tryd.ntmps10
  go_wp2
  go_ret
  exact ⟨rfl, rfl⟩

theorem refSpecial_ws (w : World) : Calls Tryd.prog 10 #[.string ⟨#[119, 115]⟩] w fun e w' => e = .returned (.bool true) ∧ w = w' := by
  go_enter Tryd.func10, Tryd.ntmps10
  go_wp2
  go_ret
  exact ⟨rfl, rfl⟩

theorem refSpecial_wss (w : World) : Calls Tryd.prog 10 #[.string ⟨#[119, 115, 115]⟩] w fun e w' => e = .returned (.bool true) ∧ w = w' := by
  go_enter Tryd.func10, Tryd.ntmps10
  go_wp2
  go_ret
  exact ⟨rfl, rfl⟩

theorem refSpecial_no (s : ByteArray) (h : None10 s) (w : World) : Calls Tryd.prog 10 #[.string s] w fun e w' => e = .returned (.bool false) ∧ w = w' := by
  obtain ⟨h1, h2, h3, h4, h5, h6⟩ := h
  go_enter Tryd.func10, Tryd.ntmps10
  go_wp2
  go_ret
  exact ⟨rfl, rfl⟩
theorem refSpecial_any (s : ByteArray) (w : World) : Calls Tryd.prog 10 #[.string s] w fun e w' => e = .returned (.bool (spec10 s.data.toList)) ∧ w = w' := by
  rcases six10 s with rfl | rfl | rfl | rfl | rfl | rfl | h
  · exact refSpecial_ftp w
  · exact refSpecial_file w
  · exact refSpecial_http w
  · exact refSpecial_https w
  · exact refSpecial_ws w
  · exact refSpecial_wss w
  · obtain ⟨h1, h2, h3, h4, h5, h6⟩ := h.list
    have e : spec10 s.data.toList = false := by
      unfold spec10
      exact decide_eq_false (by rintro (h | h | h | h | h | h); exact h1 h; exact h2 h; exact h3 h; exact h4 h; exact h5 h; exact h6 h)
    rw [e]
    exact refSpecial_no s h w


set_option maxHeartbeats 1000000 in
theorem letter_any (c : UInt8) (w : World) : Calls Tryd.prog 27 #[.int .u8 (c.toNat : Int)] w (Bool10 (let10 c) w) := by
  have hc := c.toNat_lt
  obtain ⟨n, hn⟩ : ∃ n, c.toNat = n := ⟨_, rfl⟩
  unfold let10
  rw [hn] at hc ⊢
  clear hn
  have h3 : (n < 65) ∨ (65 ≤ n ∧ n ≤ 90) ∨ (90 < n ∧ n < 97) ∨ (97 ≤ n ∧ n ≤ 122) ∨ 122 < n := by omega
  rcases h3 with h | h | h | h | h
  all_goals
    go_enter Tryd.func27, Tryd.ntmps27
    go_wp2
    go_ret
    exact ⟨ret_bool (by first | rfl | (rw [Bool.eq_iff_iff]; simp; done) | (rw [Bool.eq_iff_iff]; simp; omega)), rfl⟩
theorem letter_is {c : UInt8} {b : Bool} (h : let10 c = b) (w : World) : Calls Tryd.prog 27 #[.int .u8 (c.toNat : Int)] w fun e w' => e = .returned (.bool b) ∧ w = w' := h ▸ letter_any c w
end Go.Proofs.YtcndcdkcbkjbaaaDoor

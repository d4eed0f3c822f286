/-
  slices.ContainsFunc at the program's closure (is one of these no scalar?), and tell.
-/
import Derived.Test.YtmnpefpglpabmaaQSmall
import Derived.Test.YtmnpefpglpabmaaPBld
namespace Go.Proofs.Ytmnpefpglpabmaa
open Go.RowKit

theorem q1_any (c : Int) (w : World) (h0 : -2147483648 ≤ c) (h1 : c < 2147483648) :
    Calls Try.prog 14 #[.int .i32 c] w fun e w' => e = .returned (.bool (!(scal c))) ∧ w = w' := by
  go_enter Try.func14, Try.ntmps14
  go_wp2_with (first
    | (go_at_call 15; refine (qscalar_any _ _).mono ?_; rintro e w' ⟨rfl, rfl⟩))
  go_ret
  exact ⟨rfl, rfl⟩

/-- The place of the first one that is no scalar; -1. -/
def badAt (l : List Int) : Int := if (l.findIdx fun c => !(scal c)) < l.length then ((l.findIdx fun c => !(scal c) : Nat) : Int) else -1
theorem badAt_here {l : List Int} {k : Nat} (h : k < l.length) (hb : scal l[k] = false) (hp : ∀ c ∈ l.take k, scal c = true) : badAt l = k := by
  have : (l.findIdx fun c => !(scal c)) = k := by
    rw [List.findIdx_eq h]
    refine ⟨by simp [hb], fun j hj => ?_⟩
    have := hp l[j] (by rw [List.mem_take_iff_getElem]; exact ⟨j, by omega, rfl⟩)
    simp [this]
  unfold badAt
  rw [this, if_pos h]
theorem badAt_none {l : List Int} (hp : ∀ c ∈ l, scal c = true) : badAt l = -1 := by
  have : (l.findIdx fun c => !(scal c)) = l.length := by
    rw [List.findIdx_eq_length]
    intro c hc
    simp [hp c hc]
  unfold badAt
  rw [this, if_neg (by omega)]
theorem take_snoc {α : Type} {l : List α} {k : Nat} (h : k < l.length) {p : α → Prop} (h1 : ∀ c ∈ l.take k, p c) (h2 : p l[k]) : ∀ c ∈ l.take (k + 1), p c := by
  intro c hc
  rw [List.take_succ_eq_append_getElem h] at hc
  rcases List.mem_append.1 hc with hc | hc
  · exact h1 c hc
  · rw [List.mem_singleton] at hc; subst hc; exact h2

set_option maxHeartbeats 400000 in
theorem qindex_any (A : Option Addr) (l : List Int) (cap : Nat) (w : World) (h : Runes w A l) (hr : ∀ c ∈ l, -2147483648 ≤ c ∧ c < 2147483648) (hl : l.length ≤ 100000) :
    Calls Try.prog 36 #[.slice A l.length cap, .func (.func 14) #[] #[]] w fun e w' => e = .returned (.int .i64 (badAt l)) ∧ w = w' := by
  go_enter Try.func36, Try.ntmps36
  go_wp2
  go_loopw [8] (fun i wr => ∃ k : Nat, k ≤ l.length ∧ i = .int .i64 k ∧ wr = w ∧ ∀ c ∈ l.take k, scal c = true) (fun i _ => l.length - (intOf i).toNat)
  case atStart => exact ⟨0, Nat.zero_le _, rfl, rfl, by simp⟩
  case round =>
    obtain ⟨k, hk, rfl, hw, hp⟩ := hrel
    have := hw.symm; subst this
    have HP := Lib.hid hp
    clear hp hw
    by_cases hlt : k < l.length
    · obtain ⟨b, off, rfl, _, hc⟩ := h k l[k] (List.getElem?_eq_getElem hlt)
      have hr' := hr l[k] (List.getElem_mem hlt)
      clear h hr
      obtain ⟨hr0, hr1⟩ := hr'
      have HC := q1_any l[k] w hr0 hr1
      cases hs : scal l[k] with
      | true =>
        rw [hs] at HC
        have HN := Lib.hid (take_snoc (p := fun c => scal c = true) hlt HP.out hs)
        clear hs
        go_wp2_with (first | (go_at_call 14; refine HC.mono ?_; rintro e w' ⟨rfl, rfl⟩))
        go_roundw
        case rel => exact ⟨k + 1, by omega, by go_num, by first | rfl | trivial, HN.out⟩
        case measure => simp [intOf]; omega
      | false =>
        rw [hs] at HC
        have HN := Lib.hid (badAt_here hlt hs HP.out)
        clear hs
        go_wp2_with (first | (go_at_call 14; refine HC.mono ?_; rintro e w' ⟨rfl, rfl⟩))
        go_ret
        exact ⟨by rw [HN.out]; rfl, rfl⟩
    · have HN : Hid (badAt l = -1) := badAt_none (by have := HP.out; rw [List.take_of_length_le (by omega)] at this; exact this)
      clear h hr
      go_wp2
      go_ret
      exact ⟨by rw [HN.out]; rfl, rfl⟩

def anyBad (l : List Int) : Bool := l.any fun c => !(scal c)
theorem anyBad_at (l : List Int) : decide (0 ≤ badAt l) = anyBad l := by
  unfold badAt anyBad
  rw [Bool.eq_iff_iff, decide_eq_true_eq, List.any_eq_true]
  constructor
  · intro h
    split at h
    · rename_i hlt
      exact ⟨_, List.getElem_mem hlt, List.findIdx_getElem (w := hlt)⟩
    · omega
  · rintro ⟨x, hx, hp⟩
    rw [if_pos (List.findIdx_lt_length_of_exists ⟨x, hx, hp⟩)]
    omega
theorem qcontains_any (A : Option Addr) (l : List Int) (cap : Nat) (w : World) (h : Runes w A l) (hr : ∀ c ∈ l, -2147483648 ≤ c ∧ c < 2147483648) (hl : l.length ≤ 100000) :
    Calls Try.prog 13 #[.slice A l.length cap, .func (.func 14) #[] #[]] w fun e w' => e = .returned (.bool (anyBad l)) ∧ w = w' := by
  have HC := qindex_any A l cap w h hr hl
  clear h hr
  have HB := Lib.hid (anyBad_at l)
  go_enter Try.func13, Try.ntmps13
  go_wp2_with (first | (go_at_call 36; refine HC.mono ?_; rintro e w' ⟨rfl, rfl⟩))
  go_ret
  refine ⟨?_, rfl⟩
  rw [← HB.out]
  try simp

end Go.Proofs.Ytmnpefpglpabmaa

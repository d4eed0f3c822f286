/-
  In this text, one behind the other: PthCon, PthSame.
-/
import Derived.BigQuiet
import Derived.Deep.Light
import Derived.Deep.QuietTactic
import Derived.Deep.RegionHeld3
import Derived.IntWalk
import Derived.LaidEql
import Derived.Laws.AppendOwnNone
import Derived.Laws.BitsLemmas
import Derived.Laws.Cover4
import Derived.Lib.Hide
import Derived.Maps.AppendAt
import Derived.RowKitTokens
import Derived.Stop.Asserts
import Derived.WalkKit
import Derived.WalkLawsBesides
import Derived.WalkSpells
import Derived.Test.YtliklhldlofnjaaDoorRows
import Derived.Test.YtliklhldlofnjaaDoorG3
import Derived.Test.YtliklhldlofnjaaDoorG6
/-
  What the program's functions of layer 11 are held against: their contracts, as hypotheses; the example (written by mkpthcon.py).
-/
namespace Go.Proofs.YtliklhldlofnjaaDoor
open Go.RowKit

def TextC11 (s : ByteArray) (w : World) (e : Ending) (w' : World) : Prop := e = .returned (.string s) ∧ Below w.heap.size w w'
end Go.Proofs.YtliklhldlofnjaaDoor

/-
  Same and Few of segments, by their contracts (written by mkpthlaws.py).
-/
namespace Go.Proofs.YtliklhldlofnjaaDoor
open Go.RowKit

/-- Two lists that are the same11. -/
def same11 (a b : List ByteArray) : Bool := decide (a = b)

theorem ne_of_at11 {a b : List ByteArray} {k : Nat} (ha : k < a.length) (hb : k < b.length) (h : a[k] ≠ b[k]) : same11 a b = false := by
  simp only [same11, decide_eq_false_iff_not]
  rintro rfl
  exact h rfl
theorem ne_of_len11 {a b : List ByteArray} (h : a.length ≠ b.length) : same11 a b = false := by
  simp only [same11, decide_eq_false_iff_not]
  rintro rfl
  exact h rfl

set_option maxHeartbeats 400000 in
theorem same_any11 (A B : Option Addr) (a b : List ByteArray) (c d : Nat) (w : World) (ha : Strs w A a) (hb : Strs w B b) (hl : a.length ≤ maxLen) :
    Calls Tryd.prog 34 #[.slice A a.length c, .slice B b.length d] w fun e w' => e = .returned (.bool (same11 a b)) ∧ ∃ n, w' = w.drewN n := by
  unfold maxLen at hl
  by_cases hlen : a.length = b.length
  · have hne : ((a.length : Int) != (b.length : Int)) = false := by rw [bne_eq_false_iff_eq]; omega
    have HL := Lib.hid hlen
    clear hlen
    go_enter Tryd.func34, Tryd.ntmps34
    go_wp2
    go_loopw [5] (fun i wr => ∃ k : Nat, k ≤ a.length ∧ i = .int .i64 k ∧ (∃ n, wr = w.drewN n) ∧ a.take k = b.take k) (fun i _ => a.length - (intOf i).toNat)
    case atStart => exact ⟨0, Nat.zero_le _, rfl, ⟨0, rfl⟩, rfl⟩
    case round =>
      obtain ⟨k, hk, rfl, ⟨n, rfl⟩, heq⟩ := hrel
      have HE := Lib.hid heq
      clear heq
      by_cases hlt : k < a.length
      · have hlt' : k < b.length := by have := HL.out; omega
        obtain ⟨ba, offa, rfl, _, hca⟩ := ha k a[k] (List.getElem?_eq_getElem hlt)
        obtain ⟨bb, offb, rfl, _, hcb⟩ := hb k b[k] (List.getElem?_eq_getElem hlt')
        clear ha hb
        by_cases hab : a[k] = b[k]
        · have ht := bytes_same hab
          have HF : Hid (a.take (k + 1) = b.take (k + 1)) := by
            show a.take (k + 1) = b.take (k + 1)
            rw [List.take_succ_eq_append_getElem hlt, List.take_succ_eq_append_getElem hlt', hab, HE.out]
          clear hab
          go_wp2_with fail
          go_quiet (fail)
          go_wp2
          go_roundw
          case rel => exact ⟨k + 1, by omega, by go_num, ⟨_, rfl⟩, HF.out⟩
          case measure => simp [intOf]; omega
        · have ht := bytes_other hab
          have HF := Lib.hid (ne_of_at11 hlt hlt' hab)
          clear hab
          go_wp2_with fail
          go_quiet (fail)
          go_wp2
          go_ret
          exact ⟨by rw [HF.out]; rfl, _, World.drewN_drewN _ _ _⟩
      · have e : k = a.length := by omega
        have HF : Hid (same11 a b = true) := by
          show same11 a b = true
          simp only [same11, decide_eq_true_eq]
          have h1 := HE.out
          rw [List.take_of_length_le (by omega), List.take_of_length_le (by have := HL.out; omega)] at h1
          exact h1
        clear e ha hb
        go_wp2
        go_ret
        exact ⟨by rw [HF.out]; rfl, _, rfl⟩
  · have hne : ((a.length : Int) != (b.length : Int)) = true := by rw [bne_iff_ne]; omega
    have HF := Lib.hid (ne_of_len11 hlen)
    clear hlen ha hb
    go_enter Tryd.func34, Tryd.ntmps34
    go_wp2
    go_ret
    exact ⟨by rw [HF.out]; rfl, 0, rfl⟩


theorem same_segs (ps qs : List Seg) : same11 (ps.map txt10) (qs.map txt10) = decide (ps = qs) := by
  unfold same11
  rw [Bool.eq_iff_iff, decide_eq_true_eq, decide_eq_true_eq]
  constructor
  · intro h
    have e : ∀ l : List Seg, (l.map txt10).map (fun s : ByteArray => s.data.toList) = l := fun l => by rw [List.map_map]; exact List.map_id l
    rw [← e ps, h, e qs]
  · rintro rfl; rfl
set_option maxHeartbeats 400000 in
theorem rsame_is {ps qs : List Seg} {b : Bool} (h : decide (ps = qs) = b) {A B : Option Addr} {n m c d : Nat} (hn : ps.length = n) (hm : qs.length = m) (hl : n ≤ 1000) (w : World) (hs : Segs w A ps) (ht : Segs w B qs) : Calls Tryd.prog 25 #[.slice A n c, .slice B m d] w fun e w' => e = .returned (.bool b) ∧ Below w.heap.size w w' := by
  have HC := Lib.hid (same_any11 A B (ps.map txt10) (qs.map txt10) c d w hs ht (by rw [List.length_map]; simp only [maxLen]; omega))
  rw [same_segs, h, List.length_map, List.length_map, hn, hm] at HC
  clear hs ht h hn hm
  go_enter Tryd.func25, Tryd.ntmps25
  go_wp2_with (go_at_call 34; (with_reducible refine (HC.out).mono ?_); rintro e w' ⟨rfl, k, rfl⟩)
  go_ret
  exact ⟨rfl, below_drewN (Below.refl _ w) k⟩
end Go.Proofs.YtliklhldlofnjaaDoor

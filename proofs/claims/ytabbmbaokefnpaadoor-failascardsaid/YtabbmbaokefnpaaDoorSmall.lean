/-
  The small functions of package fail and of the document's answers, by their contracts.
-/
import Derived.Test.YtabbmbaokefnpaaDoorBase
namespace Go.Proofs.YtabbmbaokefnpaaDoor
open Go.RowKit

set_option maxHeartbeats 400000 in
theorem wrap_nil (s : ByteArray) (w : World) :
    Calls Tryd.prog 19 #[.string s, .nilIface] w fun e w' => e = .returned .nilIface ∧ w = w' := by
  go_enter Tryd.func19, Tryd.ntmps19
  go_wp2
  go_ret
  exact ⟨rfl, rfl⟩

set_option maxHeartbeats 400000 in
theorem wrap_held (s : ByteArray) (u : TypeId) (x : Value) (w : World) :
    Calls Tryd.prog 19 #[.string s, .iface u x] w fun e w' => e = .returned (.iface 40 (.pointer (some ⟨w.heap.size, 0, none⟩))) ∧ w.alloc (.cells #[.string s, .iface u x] 45) = w' := by
  go_enter Tryd.func19, Tryd.ntmps19
  go_wp2
  go_ret
  exact ⟨rfl, rfl⟩

set_option maxHeartbeats 400000 in
theorem unwrap_nil (w : World) :
    Calls Tryd.prog 21 #[.pointer none] w fun e w' => e = .returned .nilIface ∧ w = w' := by
  go_enter Tryd.func21, Tryd.ntmps21
  go_wp2
  go_ret
  exact ⟨rfl, rfl⟩

set_option maxHeartbeats 400000 in
theorem unwrap_at (b : Nat) (v : Value) (w : World) (h : w.cell? ⟨b, 1, none⟩ = some v) :
    Calls Tryd.prog 21 #[.pointer (some ⟨b, 0, none⟩)] w fun e w' => e = .returned v ∧ w = w' := by
  go_enter Tryd.func21, Tryd.ntmps21
  go_wp2
  go_ret
  exact ⟨rfl, rfl⟩

theorem Chain.held {w : World} {cs : List ByteArray} {n : Int} {v : Value} (h : Chain w cs (some n) v) : ∃ u x, v = .iface u x := by
  cases cs with
  | nil => exact ⟨_, _, h⟩
  | cons c cs => obtain ⟨b, v', e, _⟩ := h; exact ⟨_, _, e⟩

theorem Chain.lay {w : World} {cs : List ByteArray} {o : Option Int} {v : Value} (s : ByteArray) (h : Chain w cs o v) :
    Chain (w.alloc (.cells #[.string s, v] 45)) (s :: cs) o (.iface 40 (.pointer (some ⟨w.heap.size, 0, none⟩))) :=
  ⟨w.heap.size, v, rfl, by simp, by simp, by simp, h.below ((Below.refl _ _).alloc (Nat.le_refl _) _)⟩

set_option maxHeartbeats 400000 in
theorem all_ok (A : Option Addr) (l c : Nat) (w : World) :
    Calls Tryd.prog 11 #[.slice A l c, .int .i64 0] w fun e w' => e = .returned .nilIface ∧ w = w' := by
  go_enter Tryd.func11, Tryd.ntmps11
  go_wp2
  go_ret
  exact ⟨rfl, rfl⟩

def AllPost (w : World) (ss : List ByteArray) (n : Int) (e : Ending) (w' : World) : Prop :=
  ∃ u x, e = .returned (.iface u x) ∧ Chain w' ss.reverse (some n) (.iface u x) ∧ Below w.heap.size w w'

def AllRel (w : World) (ss : List ByteArray) (n : Int) (k : Nat) (v : Value) (w' : World) : Prop :=
  ∃ u x, v = .iface u x ∧ Chain w' (ss.take k).reverse (some n) (.iface u x) ∧ Below w.heap.size w w'

set_option maxHeartbeats 400000 in
theorem all_any (A : Option Addr) (ss : List ByteArray) (c : Nat) (n : Int) (w : World) (hn : (n == 0) = false) (h : Strs w A ss) (hl : ss.length ≤ maxLen) :
    Calls Tryd.prog 11 #[.slice A ss.length c, .int .i64 n] w (AllPost w ss n) := by
  unfold maxLen at hl
  go_enter Tryd.func11, Tryd.ntmps11
  go_wp2
  go_loopw [5, 14] (fun v i wr => ∃ k : Nat, k ≤ ss.length ∧ i = .int .i64 k ∧ AllRel w ss n k v wr) (fun _ i _ => ss.length - (intOf i).toNat)
  case atStart => exact ⟨0, Nat.zero_le _, rfl, _, _, rfl, rfl, Below.refl _ _⟩
  case round =>
    obtain ⟨k, hk, rfl, u, x, rfl, hch, hb⟩ := hrel
    by_cases hlt : k < ss.length
    · have h' := h.below hb
      obtain ⟨b, off, rfl, _, hc⟩ := h' k ss[k] (List.getElem?_eq_getElem hlt)
      clear h h'
      have HC := Lib.hid hch
      clear hch
      go_wp2_with (go_at_call 19; refine (wrap_held _ _ _ _).mono ?_; rintro e w' ⟨rfl, rfl⟩)
      go_roundw
      case rel =>
        refine ⟨k + 1, by omega, by go_num, _, _, rfl, ?_, hb.alloc hb.size _⟩
        rw [List.take_succ_eq_append_getElem hlt, List.reverse_append]
        exact HC.out.lay _
      case measure => simp [intOf]; omega
    · have e : k = ss.length := by omega
      subst e
      clear h
      rw [List.take_of_length_le (Nat.le_refl _)] at hch
      have HC := Lib.hid hch
      clear hch
      go_wp2
      go_ret
      exact ⟨_, _, rfl, HC.out, hb⟩

end Go.Proofs.YtabbmbaokefnpaaDoor

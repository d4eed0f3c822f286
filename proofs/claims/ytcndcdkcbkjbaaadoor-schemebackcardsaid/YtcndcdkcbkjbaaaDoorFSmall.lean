/-
  The small functions of package fail and of the document's answers, by their contracts.
-/
import Derived.Test.YtcndcdkcbkjbaaaDoorFBase
namespace Go.Proofs.YtcndcdkcbkjbaaaDoor
open Go.RowKit

set_option maxHeartbeats 400000 in
theorem wrap_nil (s : ByteArray) (w : World) :
    Calls Tryd.prog 31 #[.string s, .nilIface] w fun e w' => e = .returned .nilIface ∧ w = w' := by
  go_enter Tryd.func31, Tryd.ntmps31
  go_wp2
  go_ret
  exact ⟨rfl, rfl⟩

set_option maxHeartbeats 400000 in
theorem wrap_held (s : ByteArray) (u : TypeId) (x : Value) (w : World) :
    Calls Tryd.prog 31 #[.string s, .iface u x] w fun e w' => e = .returned (.iface 61 (.pointer (some ⟨w.heap.size, 0, none⟩))) ∧ w.alloc (.cells #[.string s, .iface u x] 63) = w' := by
  go_enter Tryd.func31, Tryd.ntmps31
  go_wp2
  go_ret
  exact ⟨rfl, rfl⟩

set_option maxHeartbeats 400000 in
theorem unwrap_nil (w : World) :
    Calls Tryd.prog 92 #[.pointer none] w fun e w' => e = .returned .nilIface ∧ w = w' := by
  go_enter Tryd.func92, Tryd.ntmps92
  go_wp2
  go_ret
  exact ⟨rfl, rfl⟩

set_option maxHeartbeats 400000 in
theorem unwrap_at (b : Nat) (v : Value) (w : World) (h : w.cell? ⟨b, 1, none⟩ = some v) :
    Calls Tryd.prog 92 #[.pointer (some ⟨b, 0, none⟩)] w fun e w' => e = .returned v ∧ w = w' := by
  go_enter Tryd.func92, Tryd.ntmps92
  go_wp2
  go_ret
  exact ⟨rfl, rfl⟩

theorem Chain.held {w : World} {cs : List ByteArray} {n : Int} {v : Value} (h : Chain w cs (some n) v) : ∃ u x, v = .iface u x := by
  cases cs with
  | nil => exact ⟨_, _, h⟩
  | cons c cs => obtain ⟨b, v', e, _⟩ := h; exact ⟨_, _, e⟩

theorem Chain.lay {w : World} {cs : List ByteArray} {o : Option Int} {v : Value} (s : ByteArray) (h : Chain w cs o v) :
    Chain (w.alloc (.cells #[.string s, v] 63)) (s :: cs) o (.iface 61 (.pointer (some ⟨w.heap.size, 0, none⟩))) :=
  ⟨w.heap.size, v, rfl, by simp, by simp, by simp, h.below ((Below.refl _ _).alloc (Nat.le_refl _) _)⟩

def AllPost (w : World) (ss : List ByteArray) (n : Int) (e : Ending) (w' : World) : Prop :=
  ∃ u x, e = .returned (.iface u x) ∧ Chain w' ss.reverse (some n) (.iface u x) ∧ Below w.heap.size w w'

def AllRel (w : World) (ss : List ByteArray) (n : Int) (k : Nat) (v : Value) (w' : World) : Prop :=
  ∃ u x, v = .iface u x ∧ Chain w' (ss.take k).reverse (some n) (.iface u x) ∧ Below w.heap.size w w'

end Go.Proofs.YtcndcdkcbkjbaaaDoor

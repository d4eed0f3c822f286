/-
  find of package fail, at both of its types, and Code.
-/
import Derived.Test.YtcndcdkcbkjbaaaDoorFAsTop
import Derived.Test.YtcndcdkcbkjbaaaDoorFWord
import Derived.Defers
import Derived.Recover
import Derived.RegionTactic
import Derived.ChangeAlike
namespace Go.Proofs.YtcndcdkcbkjbaaaDoor
open Go.RowKit

/-- The variable errors.errorType holds its handle. -/
def Ready (w : World) : Prop := w.cell? ⟨0, 0, none⟩ = some (.iface 67 (.agg #[.pointer (some ⟨5, 28, none⟩)]))
theorem Ready.lt {w : World} (h : Ready w) : 0 < w.heap.size := by
  rcases Nat.lt_or_ge 0 w.heap.size with h' | h'
  · exact h'
  · simp [Ready, World.cell?, Array.getElem?_eq_none h'] at h
theorem Ready.below {w w' : World} (h : Ready w) (hb : Below w.heap.size w w') : Ready w' := (hb.cell (p := ⟨0, 0, none⟩) h.lt).trans h


theorem find1_idleE (p q : Addr) (w : World) :
    CallsD Tryd.prog 42 #[.pointer (some p), .pointer (some q)] .returning w fun e u' w' => e = .returned (.tuple #[]) ∧ u' = .returning ∧ w = w' := by
  refine callsD_of_wpS Tryd.func42 rfl fun c₀ cs hu => ?_
  apply wpS_seq
  apply wpS_region
  simp [wpOpsS, go_sem, recoverD, hu, Tryd.ntmps42, Exit.thenS]
  refine wpS_cond (t := false) (by simp [Act.eval, Array.replicate]) ?_
  simp only [Bool.false_eq_true, if_false]
  refine wpS_of_wp (wp_skip ?_)
  cases c₀
  simp_all [bodyPostS, results, Tryd.results42]

/-- What find leaves: its two results, and nothing old turned. -/
def FindPostE (w : World) (v : Value) (b : Bool) (e : Ending) (w' : World) : Prop := e = .returned (.tuple #[v, .bool b]) ∧ Below w.heap.size w w'


/-- What find leaves: its two results, and nothing old turned. -/
def FindPostF (w : World) (v : Value) (b : Bool) (e : Ending) (w' : World) : Prop := e = .returned (.tuple #[v, .bool b]) ∧ Below w.heap.size w w'


set_option maxHeartbeats 2000000 in
set_option maxRecDepth 100000 in
theorem find_errno (cs : List ByteArray) (n : Int) (u : TypeId) (x : Value) (w : World) (hc : Chain w cs (some n) (.iface u x)) (hg : Ready w) :
    Calls Tryd.prog 32 #[.iface u x] w (FindPostE w (.int .i64 n) true) := by
  have hmf : ∀ (fn : Fn) (first cap : Array Value) (w : World), (Instr.makeFunc fn first cap).run Tryd.prog w = .ok (.func fn first cap) w := fun _ _ _ _ => rfl
  have HC := Lib.hid hc
  clear hc
  have hwb : Below w.heap.size w ((w.alloc (.cells #[.int .i64 0] 33)).alloc (.cells #[.bool false] 4)) := ((Below.refl _ _).alloc (Nat.le_refl _) _).alloc (by simp) _
  have hg2 : Ready ((w.alloc (.cells #[.int .i64 0] 33)).alloc (.cells #[.bool false] 4)) := hg.below hwb
  have hc0 : ((w.alloc (.cells #[.int .i64 0] 33)).alloc (.cells #[.bool false] 4)).cell? ⟨w.heap.size, 0, none⟩ = some (.int .i64 0) := by simp
  have hf0 : ((w.alloc (.cells #[.int .i64 0] 33)).alloc (.cells #[.bool false] 4)).frozen? ⟨w.heap.size, 0, none⟩ = false := by simp
  have HG := Lib.hid hg
  clear hg
  go_enter_defers Tryd.func32, Tryd.ntmps32
  go_wp2_with (go_at_call 43; refine (as_errno cs (some n) u x ⟨w.heap.size, 0, none⟩ _ _ (HC.out.below hwb) hg2 hc0 hf0).mono ?_)
  rintro e w1 ⟨rfl, hb⟩
  have hs0 : w1.cell? ⟨w.heap.size, 0, none⟩ = some (.int .i64 n) := (hb.cell (p := ⟨w.heap.size, 0, none⟩) (by simp; omega)).trans (World.cell?_setCell_same' _ _ _ (by rw [hc0]; rfl))
  have hs1 : w1.cell? ⟨w.heap.size + 1, 0, none⟩ = some (.bool false) := (hb.cell (p := ⟨w.heap.size + 1, 0, none⟩) (by simp)).trans ((World.cell?_setCell_other _ ⟨w.heap.size, 0, none⟩ ⟨w.heap.size + 1, 0, none⟩ _ (by simp)).trans (by simp))
  have hz0 : w1.frozen? ⟨w.heap.size, 0, none⟩ = false := (hb.frozen (p := ⟨w.heap.size, 0, none⟩) (by simp; omega)).trans ((World.frozen?_setCell _ _ _ _).trans hf0)
  have hz1 : w1.frozen? ⟨w.heap.size + 1, 0, none⟩ = false := (hb.frozen (p := ⟨w.heap.size + 1, 0, none⟩) (by simp)).trans ((World.frozen?_setCell _ _ _ _).trans (by simp))
  have hbw : Below w.heap.size w w1 := ((((Below.refl _ _).alloc (Nat.le_refl _) _).alloc (by simp) _).setCell (p := ⟨w.heap.size, 0, none⟩) (Nat.le_refl _) _).trans (hb.mono (by simp; omega))
  clear hb
  go_wp2
  go_region
  all_goals
    go_wp2
    refine leaves_cons (f := 42) (args := #[.pointer (some ⟨w.heap.size, 0, none⟩), .pointer (some ⟨w.heap.size + 1, 0, none⟩)]) (by simp) (by simp [go_sem]) ?_
    refine (find1_idleE ⟨w.heap.size, 0, none⟩ ⟨w.heap.size + 1, 0, none⟩ _).mono ?_
    rintro e u' w'' ⟨rfl, rfl, rfl⟩
    simp [Leaves, settle, results, Tryd.results32, go_sem, hs0, hs1]
    exact ⟨rfl, (((hbw.setCell (p := ⟨w.heap.size + 1, 0, none⟩) (Nat.le_succ _) _).setCell (p := ⟨w.heap.size, 0, none⟩) (Nat.le_refl _) _).setCell (p := ⟨w.heap.size + 1, 0, none⟩) (Nat.le_succ _) _).drew⟩


set_option maxHeartbeats 2000000 in
set_option maxRecDepth 100000 in
theorem find_errno_no (cs : List ByteArray) (u : TypeId) (x : Value) (w : World) (hc : Chain w cs none (.iface u x)) (hg : Ready w) :
    Calls Tryd.prog 32 #[.iface u x] w (FindPostE w (.int .i64 0) false) := by
  have hmf : ∀ (fn : Fn) (first cap : Array Value) (w : World), (Instr.makeFunc fn first cap).run Tryd.prog w = .ok (.func fn first cap) w := fun _ _ _ _ => rfl
  have HC := Lib.hid hc
  clear hc
  have hwb : Below w.heap.size w ((w.alloc (.cells #[.int .i64 0] 33)).alloc (.cells #[.bool false] 4)) := ((Below.refl _ _).alloc (Nat.le_refl _) _).alloc (by simp) _
  have hg2 : Ready ((w.alloc (.cells #[.int .i64 0] 33)).alloc (.cells #[.bool false] 4)) := hg.below hwb
  have hc0 : ((w.alloc (.cells #[.int .i64 0] 33)).alloc (.cells #[.bool false] 4)).cell? ⟨w.heap.size, 0, none⟩ = some (.int .i64 0) := by simp
  have hf0 : ((w.alloc (.cells #[.int .i64 0] 33)).alloc (.cells #[.bool false] 4)).frozen? ⟨w.heap.size, 0, none⟩ = false := by simp
  have HG := Lib.hid hg
  clear hg
  go_enter_defers Tryd.func32, Tryd.ntmps32
  go_wp2_with (go_at_call 43; refine (as_errno cs none u x ⟨w.heap.size, 0, none⟩ _ _ (HC.out.below hwb) hg2 hc0 hf0).mono ?_)
  rintro e w1 ⟨rfl, hb⟩
  have hs0 : w1.cell? ⟨w.heap.size, 0, none⟩ = some (.int .i64 0) := (hb.cell (p := ⟨w.heap.size, 0, none⟩) (by simp; omega)).trans hc0
  have hs1 : w1.cell? ⟨w.heap.size + 1, 0, none⟩ = some (.bool false) := (hb.cell (p := ⟨w.heap.size + 1, 0, none⟩) (by simp)).trans (by simp)
  have hz0 : w1.frozen? ⟨w.heap.size, 0, none⟩ = false := (hb.frozen (p := ⟨w.heap.size, 0, none⟩) (by simp; omega)).trans hf0
  have hz1 : w1.frozen? ⟨w.heap.size + 1, 0, none⟩ = false := (hb.frozen (p := ⟨w.heap.size + 1, 0, none⟩) (by simp)).trans (by simp)
  have hbw : Below w.heap.size w w1 := ((((Below.refl _ _).alloc (Nat.le_refl _) _).alloc (by simp) _)).trans (hb.mono (by simp; omega))
  clear hb
  go_wp2
  go_region
  all_goals
    go_wp2
    refine leaves_cons (f := 42) (args := #[.pointer (some ⟨w.heap.size, 0, none⟩), .pointer (some ⟨w.heap.size + 1, 0, none⟩)]) (by simp) (by simp [go_sem]) ?_
    refine (find1_idleE ⟨w.heap.size, 0, none⟩ ⟨w.heap.size + 1, 0, none⟩ _).mono ?_
    rintro e u' w'' ⟨rfl, rfl, rfl⟩
    simp [Leaves, settle, results, Tryd.results32, go_sem, hs0, hs1]
    exact ⟨rfl, (((hbw.setCell (p := ⟨w.heap.size + 1, 0, none⟩) (Nat.le_succ _) _).setCell (p := ⟨w.heap.size, 0, none⟩) (Nat.le_refl _) _).setCell (p := ⟨w.heap.size + 1, 0, none⟩) (Nat.le_succ _) _).drew⟩


set_option maxHeartbeats 400000 in
theorem code_nil (w : World) : Calls Tryd.prog 19 #[.nilIface] w fun e w' => e = .returned (.int .i64 0) ∧ w = w' := by
  go_enter Tryd.func19, Tryd.ntmps19
  go_wp2
  go_ret
  exact ⟨rfl, rfl⟩

set_option maxHeartbeats 400000 in
theorem code_some (cs : List ByteArray) (n : Int) (u : TypeId) (x : Value) (w : World) (hc : Chain w cs (some n) (.iface u x)) (hg : Ready w) :
    Calls Tryd.prog 19 #[.iface u x] w (Returns (.int .i64 n) w) := by
  have HC := Lib.hid hc
  have HG := Lib.hid hg
  clear hc hg
  go_enter Tryd.func19, Tryd.ntmps19
  go_wp2_with (go_at_call 32; refine (find_errno cs n u x _ HC.out HG.out).mono ?_; rintro e w1 ⟨rfl, hb⟩)
  go_ret
  exact ⟨rfl, hb⟩

set_option maxHeartbeats 400000 in
theorem code_none (cs : List ByteArray) (u : TypeId) (x : Value) (w : World) (hc : Chain w cs none (.iface u x)) (hg : Ready w) :
    Calls Tryd.prog 19 #[.iface u x] w (Returns (.int .i64 10) w) := by
  have HC := Lib.hid hc
  have HG := Lib.hid hg
  clear hc hg
  go_enter Tryd.func19, Tryd.ntmps19
  go_wp2_with (go_at_call 32; refine (find_errno_no cs u x _ HC.out HG.out).mono ?_; rintro e w1 ⟨rfl, hb⟩)
  go_ret
  exact ⟨rfl, hb⟩

end Go.Proofs.YtcndcdkcbkjbaaaDoor
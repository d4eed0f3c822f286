/-
  fails of package fail: the function that goes through the Fails of a chain.
-/
import Derived.RangeFuncNested
import Derived.RangeFuncBound
import Derived.RangeFuncCalls
import Derived.RangeFuncLeaves
import Derived.RangeFuncBox
import Derived.Shelf.Abstract
import Derived.OwnWalkIn
import Derived.TacticsInMore
import Derived.LoopNIn
import Derived.LoopIn
import Derived.Sort.LoopGhostIn
import Derived.Maps.AppendAt
import Derived.Test.YtabbmbaokefnpaaDoorFind
import Derived.Test.YtabbmbaokefnpaaDoorBld
namespace Go.Proofs.YtabbmbaokefnpaaDoor
open Go.RowKit Go.Shelf

attribute [local go_sem] Oper.semAt_some

/-- A Fail that lies in w: its block, and its call. -/
abbrev Item (w : World) : Type := { p : Nat × ByteArray // p.1 < w.heap.size ∧ w.cell? ⟨p.1, 0, none⟩ = some (.string p.2) }

/-- The Fails of a chain, one after the other. -/
def Links (w : World) (o : Option Int) : List (Item w) → Value → Prop
  | [], v => Chain w [] o v
  | x :: xs, v => v = .iface 40 (.pointer (some ⟨x.1.1, 0, none⟩)) ∧ ∃ v', w.cell? ⟨x.1.1, 1, none⟩ = some v' ∧ Links w o xs v'

theorem Chain.links {w : World} {o : Option Int} : ∀ {cs : List ByteArray} {v : Value}, Chain w cs o v → ∃ xs : List (Item w), xs.map (·.1.2) = cs ∧ Links w o xs v
  | [], _, h => ⟨[], rfl, h⟩
  | c :: cs, v, ⟨b, v', e, hl, h0, h1, h2⟩ => by
    obtain ⟨xs, hx, hl2⟩ := Chain.links h2
    exact ⟨⟨(b, c), hl, h0⟩ :: xs, by simp [hx], e, v', h1, hl2⟩

set_option maxHeartbeats 1000000 in
set_option maxRecDepth 100000 in
theorem fails_any (v : Value) (w : World) (hv : v = .nilIface ∨ ∃ u x, v = .iface u x) :
    Calls Tryd.prog 24 #[v] w fun e w' => e = .returned (.func (.func 35) #[] #[.pointer (some ⟨w.heap.size, 0, none⟩)]) ∧ w.alloc (.cells #[v] 28) = w' := by
  have hmf : ∀ (fn : Fn) (first cap : Array Value) (w : World), (Instr.makeFunc fn first cap).run Tryd.prog w = .ok (.func fn first cap) w := fun _ _ _ _ => rfl
  rcases hv with rfl | ⟨u, x, rfl⟩
  all_goals
    go_enter Tryd.func24, Tryd.ntmps24
    go_wp2
    go_ret
    exact ⟨rfl, rfl⟩

def IterRel (w0 : World) (o : Option Int) (xs : List (Item w0)) (J : List (Item w0) → World → Prop) (k : Nat) (p : Value) (wr : World) : Prop :=
  ∃ pre rest, rest.length = k ∧ xs = pre ++ rest ∧ Links w0 o rest p ∧ Below w0.heap.size w0 wr ∧ J pre wr

set_option maxHeartbeats 2000000 in
set_option maxRecDepth 100000 in
theorem fails1_in (n : Nat) (hn : 1 ≤ n) (l Bn : Nat) (w0 : World) (v0 : Value) (o : Option Int) (xs : List (Item w0)) (J Jx : List (Item w0) → World → Prop) (W : World) (hg : Ready w0)
    (hJ : AbidesFrom W.heap.size J)
    (hY : ∀ pre x W1, J pre W1 → pre.length < xs.length → YieldAt Fence.wide (n - 1) Tryd.prog l #[.pointer (some ⟨x.1.1, 0, none⟩)] W1 fun e W' =>
      (e = .returned (.bool true) ∧ J (pre ++ [x]) W' ∧ Below w0.heap.size W1 W') ∨ (e = .returned (.bool false) ∧ Jx (pre ++ [x]) W'))
    (hb : Below w0.heap.size w0 W) (hBn : W.cell? ⟨Bn, 0, none⟩ = some v0) (hL : Links w0 o xs v0) (h0 : J [] W) :
    CallsIn Fence.wide n Tryd.prog 35 #[.func (.yield l) #[] #[], .pointer (some ⟨Bn, 0, none⟩)] W fun e W' => (∃ v, e = .returned v) ∧
      ((∃ ys, ys = xs ∧ J ys W') ∨ (∃ pre, pre <+: xs ∧ Jx pre W')) := by
  have HY := Lib.hid hY
  have HJ := Lib.hid hJ
  have HL := Lib.hid hL
  have HG := Lib.hid hg
  have H0 := Lib.hid h0
  clear hY hJ hL hg h0
  refine callsIn_of_wp Tryd.func35 rfl trivial ?_ rfl
  simp only [Tryd.ntmps35, List.size_toArray, List.length_cons, List.length_nil, Nat.reduceAdd, Nat.reduceSub, Array.replicate_succ, Array.replicate_zero, List.push_toArray, List.append_toArray, List.nil_append, List.cons_append]
  gi_wp2
  gi_loopg [3] xs.length (fun k p wr => IterRel w0 o xs J k p wr)
  case atStart => exact ⟨[], xs, rfl, rfl, HL.out, hb, H0.out⟩
  case round =>
    obtain ⟨pre, rest, hk, hx, hl, hbr, hJs⟩ := hrel
    have HK := Lib.hid hk
    have HX := Lib.hid hx
    have HJs := Lib.hid hJs
    clear hk hx hJs
    have hgr := HG.out.below hbr
    have HGr := Lib.hid hgr
    clear hgr
    cases rest with
    | nil =>
      cases o with
      | none =>
        obtain rfl : _ = Value.nilIface := hl
        gi_wp2
        go_end0
        exact ⟨⟨_, rfl⟩, .inl ⟨pre, by simp [HX.out], HJs.out⟩⟩
      | some m =>
        obtain rfl : _ = Value.iface 25 (.int .i64 m) := hl
        gi_wp2_with (refine ⟨trivial, ?_⟩; gi_at_call 36; refine (callsIn_wide.2 (find_fail_no m _ HGr.out)).mono ?_; rintro e w1 ⟨rfl, hb1⟩)
        refine ⟨fun _ h => (by cases h), ?_⟩
        gi_wp2
        refine bodyPost_ret (results_none rfl _ _ _) rfl ?_
        exact ⟨⟨_, rfl⟩, .inl ⟨pre, by simp [HX.out], HJ.out _ _ _ none HJs.out (grown_of_below hb1) (fun r e => by cases e)⟩⟩
    | cons x rest =>
      obtain ⟨rfl, v', hc1, hl2⟩ := hl
      have HL2 := Lib.hid hl2
      clear hl2
      gi_wp2_with (refine ⟨trivial, ?_⟩; gi_at_call 36; refine (callsIn_wide.2 (find_fail ⟨x.1.1, 0, none⟩ _ HGr.out)).mono ?_; rintro e w1 ⟨rfl, hb1⟩; obtain ⟨fn, tmps, assign, body, hy, hR⟩ := HY.out pre x w1 (HJ.out _ _ _ none HJs.out (grown_of_below hb1) (fun r e => (by cases e))) (by rw [HX.out]; simp); have hb2 : Below w0.heap.size w0 w1 := hbr.trans (hb1.mono hbr.size))
      refine hR.mono ?_
      clear hR hy
      rintro e W3 (⟨rfl, hJ3, hk3⟩ | ⟨rfl, hJx3⟩)
      · have hb3 := hb2.trans hk3
        have hq := (hb3.cell (p := ⟨x.1.1, 1, none⟩) x.2.1).trans hc1
        have HJ3 := Lib.hid hJ3
        clear hJ3
        gi_wp2_with (refine ⟨trivial, ?_⟩; gi_at_call 21; refine (callsIn_wide.2 (unwrap_at x.1.1 _ _ hq)).mono ?_; rintro e w' ⟨rfl, rfl⟩)
        gi_roundg rest.length
        case measure => rw [← HK.out]; simp
        case rel => exact ⟨pre ++ [x], rest, rfl, by simp [HX.out], HL2.out, hb3, HJ3.out⟩
      · gi_wp2
        refine bodyPost_ret (results_none rfl _ _ _) rfl ?_
        exact ⟨⟨_, rfl⟩, .inr ⟨pre ++ [x], ⟨rest, by simp [HX.out]⟩, hJx3⟩⟩
end Go.Proofs.YtabbmbaokefnpaaDoor

/-
  In this text, one behind the other: RecLawT, RecLawS.
-/
import Derived.BigQuiet
import Derived.Deep.AppendLies
import Derived.Deep.DrawnRows
import Derived.Deep.Light
import Derived.Deep.LoopGhost
import Derived.Deep.QuietTactic
import Derived.Deep.RegionHeld3
import Derived.Deep.RegionWith
import Derived.Deep.WholeRow
import Derived.DeepKeys
import Derived.IntWalk
import Derived.LaidEql
import Derived.Laws.AppendOwnNone
import Derived.Laws.BitsLemmas
import Derived.Laws.Cover4
import Derived.Laws.Externs
import Derived.Laws.RangeString
import Derived.Laws.Rows
import Derived.Laws.Runes
import Derived.Laws.Tables
import Derived.Lib.Hide
import Derived.Maps.AppendAt
import Derived.RowKitTokens
import Derived.Shelf.Strings.Builder1
import Derived.Stop.Asserts
import Derived.WalkKit
import Derived.WalkLawsBesides
import Derived.WalkMore
import Derived.WalkSpells
import Derived.Test.YtliklhldlofnjaaDoorRows
import Derived.Test.YtliklhldlofnjaaDoorG32
import Derived.Test.YtliklhldlofnjaaDoorG11
/-
  The law RecordTexts of layer 12, over the program's contracts (written by mkrec.py).
-/
namespace Go.Proofs.YtliklhldlofnjaaDoor
open Go.RowKit
attribute [local go_sem ↓] foldL12 foldS12
attribute [local go_sem] loadU_run viaRow_cells storeU_run viaStore_cells setRow_here12 heap_here12 heap_old12 heap_put12 put12_cells heap_other12 blk_drew12

theorem bnd12 {w a b : World} (h : Below w.heap.size w a) (k : Below a.drew.heap.size a.drew b) : Below w.heap.size w b := bn12 (h.drew) k
end Go.Proofs.YtliklhldlofnjaaDoor

/-
  The law RecordSame of layer 12, over the program's contracts (written by mkrec.py).
-/
namespace Go.Proofs.YtliklhldlofnjaaDoor
open Go.RowKit
attribute [local go_sem ↓] foldL12 foldS12
attribute [local go_sem] loadU_run viaRow_cells storeU_run viaStore_cells setRow_here12 heap_here12 heap_old12 heap_put12 put12_cells heap_other12 blk_drew12


set_option maxHeartbeats 8000000 in
set_option maxRecDepth 100000 in
theorem law_same12 (u : Url12) (A : Option Addr) (n c : Nat) (v : Url12) (B : Option Addr) (m d : Nat) (w : World) (hs : Segs w A u.path) (hn : u.path.length = n) (hl : n ≤ maxLen) (hc : n ≤ c ∧ (A = none → c = 0)) (hf : Fits12 u) (hu : Nums12 u) (ht : Segs w B v.path) (hm : v.path.length = m) (hlm : m ≤ maxLen) (hd : m ≤ d ∧ (B = none → d = 0)) (hf2 : Fits12 v) (hv : Nums12 v) (C : RecC w) :
    Calls Tryd.prog 4 #[.agg #[.string u.scheme, .string u.user, .string u.pass, .int .i64 u.kind, .string u.name, .int .u32 (u.v4 : Int), .int .u16 (u.a0 : Int), .int .u16 (u.a1 : Int), .int .u16 (u.a2 : Int), .int .u16 (u.a3 : Int), .int .u16 (u.a4 : Int), .int .u16 (u.a5 : Int), .int .u16 (u.a6 : Int), .int .u16 (u.a7 : Int), .int .i64 u.port, .bool u.opaq, .slice A n c, .bool u.hasQ, .string u.query, .bool u.hasF, .string u.frag], .agg #[.string v.scheme, .string v.user, .string v.pass, .int .i64 v.kind, .string v.name, .int .u32 (v.v4 : Int), .int .u16 (v.a0 : Int), .int .u16 (v.a1 : Int), .int .u16 (v.a2 : Int), .int .u16 (v.a3 : Int), .int .u16 (v.a4 : Int), .int .u16 (v.a5 : Int), .int .u16 (v.a6 : Int), .int .u16 (v.a7 : Int), .int .i64 v.port, .bool v.opaq, .slice B m d, .bool v.hasQ, .string v.query, .bool v.hasF, .string v.frag]] w (Yes12 w) := by
  have HC := Lib.hid C
  clear C
  obtain ⟨W, hW⟩ : ∃ W, ((w.alloc (.cells #[.string u.scheme, .string u.user, .string u.pass, .int .i64 u.kind, .string u.name, .int .u32 (u.v4 : Int), .int .u16 (u.a0 : Int), .int .u16 (u.a1 : Int), .int .u16 (u.a2 : Int), .int .u16 (u.a3 : Int), .int .u16 (u.a4 : Int), .int .u16 (u.a5 : Int), .int .u16 (u.a6 : Int), .int .u16 (u.a7 : Int), .int .i64 u.port, .bool u.opaq, .slice A n c, .bool u.hasQ, .string u.query, .bool u.hasF, .string u.frag] 29)).alloc (.cells #[.string v.scheme, .string v.user, .string v.pass, .int .i64 v.kind, .string v.name, .int .u32 (v.v4 : Int), .int .u16 (v.a0 : Int), .int .u16 (v.a1 : Int), .int .u16 (v.a2 : Int), .int .u16 (v.a3 : Int), .int .u16 (v.a4 : Int), .int .u16 (v.a5 : Int), .int .u16 (v.a6 : Int), .int .u16 (v.a7 : Int), .int .i64 v.port, .bool v.opaq, .slice B m d, .bool v.hasQ, .string v.query, .bool v.hasF, .string v.frag] 29)) = W := ⟨_, rfl⟩
  have HW : Hid (Below w.heap.size w W) := by show Below w.heap.size w W; rw [← hW]; exact bn12 (bel12 w _) (bel12 _ _)
  have HCs : Hid (∀ wx, Below W.heap.size W wx → blk12 wx w.heap.size = some (.cells #[.string u.scheme, .string u.user, .string u.pass, .int .i64 u.kind, .string u.name, .int .u32 (u.v4 : Int), .int .u16 (u.a0 : Int), .int .u16 (u.a1 : Int), .int .u16 (u.a2 : Int), .int .u16 (u.a3 : Int), .int .u16 (u.a4 : Int), .int .u16 (u.a5 : Int), .int .u16 (u.a6 : Int), .int .u16 (u.a7 : Int), .int .i64 u.port, .bool u.opaq, .slice A n c, .bool u.hasQ, .string u.query, .bool u.hasF, .string u.frag] 29 (0, 0)) ∧ blk12 wx (w.heap.size + 1) = some (.cells #[.string v.scheme, .string v.user, .string v.pass, .int .i64 v.kind, .string v.name, .int .u32 (v.v4 : Int), .int .u16 (v.a0 : Int), .int .u16 (v.a1 : Int), .int .u16 (v.a2 : Int), .int .u16 (v.a3 : Int), .int .u16 (v.a4 : Int), .int .u16 (v.a5 : Int), .int .u16 (v.a6 : Int), .int .u16 (v.a7 : Int), .int .i64 v.port, .bool v.opaq, .slice B m d, .bool v.hasQ, .string v.query, .bool v.hasF, .string v.frag] 29 (0, 0))) := by
    show ∀ wx, Below W.heap.size W wx → _
    subst hW
    exact fun wx hb => ⟨((two12 (.string u.scheme) (.string u.user) (.string u.pass) (.int .i64 u.kind) (.string u.name) (.int .u32 (u.v4 : Int)) (.int .u16 (u.a0 : Int)) (.int .u16 (u.a1 : Int)) (.int .u16 (u.a2 : Int)) (.int .u16 (u.a3 : Int)) (.int .u16 (u.a4 : Int)) (.int .u16 (u.a5 : Int)) (.int .u16 (u.a6 : Int)) (.int .u16 (u.a7 : Int)) (.int .i64 u.port) (.bool u.opaq) (.slice A n c) (.bool u.hasQ) (.string u.query) (.bool u.hasF) (.string u.frag) (.string v.scheme) (.string v.user) (.string v.pass) (.int .i64 v.kind) (.string v.name) (.int .u32 (v.v4 : Int)) (.int .u16 (v.a0 : Int)) (.int .u16 (v.a1 : Int)) (.int .u16 (v.a2 : Int)) (.int .u16 (v.a3 : Int)) (.int .u16 (v.a4 : Int)) (.int .u16 (v.a5 : Int)) (.int .u16 (v.a6 : Int)) (.int .u16 (v.a7 : Int)) (.int .i64 v.port) (.bool v.opaq) (.slice B m d) (.bool v.hasQ) (.string v.query) (.bool v.hasF) (.string v.frag)) wx hb).1.1.out, ((two12 (.string u.scheme) (.string u.user) (.string u.pass) (.int .i64 u.kind) (.string u.name) (.int .u32 (u.v4 : Int)) (.int .u16 (u.a0 : Int)) (.int .u16 (u.a1 : Int)) (.int .u16 (u.a2 : Int)) (.int .u16 (u.a3 : Int)) (.int .u16 (u.a4 : Int)) (.int .u16 (u.a5 : Int)) (.int .u16 (u.a6 : Int)) (.int .u16 (u.a7 : Int)) (.int .i64 u.port) (.bool u.opaq) (.slice A n c) (.bool u.hasQ) (.string u.query) (.bool u.hasF) (.string u.frag) (.string v.scheme) (.string v.user) (.string v.pass) (.int .i64 v.kind) (.string v.name) (.int .u32 (v.v4 : Int)) (.int .u16 (v.a0 : Int)) (.int .u16 (v.a1 : Int)) (.int .u16 (v.a2 : Int)) (.int .u16 (v.a3 : Int)) (.int .u16 (v.a4 : Int)) (.int .u16 (v.a5 : Int)) (.int .u16 (v.a6 : Int)) (.int .u16 (v.a7 : Int)) (.int .i64 v.port) (.bool v.opaq) (.slice B m d) (.bool v.hasQ) (.string v.query) (.bool v.hasF) (.string v.frag)) wx hb).2.1.out⟩
  have HA : Hid (Calls Tryd.prog 8 #[] W (Yes12 W)) := awake12 (HC.out.behind HW.out)
  have HF := Lib.hid (fun wx (hb : Below W.heap.size W wx) => rfew_is (b := few12 u) rfl A n c hn hl wx (hs.below (bn12 HW.out hb)) hf)
  have HG := Lib.hid (fun wx (hb : Below W.heap.size W wx) => rfew_is (b := few12 v) rfl B m d hm hlm wx (ht.below (bn12 HW.out hb)) hf2)
  obtain ⟨g, hg⟩ : ∃ g, w.heap.size = g := ⟨_, rfl⟩
  cases hfew : few12 u with
  | false =>
    rw [hfew] at HF
    rw [hg] at HCs
    clear hs hn hl hc hf hu ht hm hlm hd hf2 hv HG
    go_enter Tryd.func4, Tryd.ntmps4
    go_wp2_with (first
      | (go_at_call 8; (try rw [hW]); refine HA.out.mono ?_; rintro e w1 ⟨rfl, hb⟩; have HBc := Lib.hid hb; (try rw [hg]); have s0 := HCs.out _ hb; obtain ⟨s0, t0⟩ := s0; clear hb)
      | (go_at_call 9; (with_reducible refine (HF.out _ HBc.out).mono ?_); rintro e w2 ⟨rfl, hb⟩; have HBc := Lib.hid (bn12 HBc.out hb); clear s0 t0; obtain ⟨s0, t0⟩ := HCs.out _ HBc.out; clear hb))
    go_ret
    exact ⟨rfl, bn12 HW.out HBc.out⟩
  | true =>
    cases hfew2 : few12 v with
    | false =>
      rw [hfew] at HF
      rw [hfew2] at HG
      rw [hg] at HCs
      clear hs hn hl hc hf hu ht hm hlm hd hf2 hv
      go_enter Tryd.func4, Tryd.ntmps4
      go_wp2_with (first
        | (go_at_call 8; (try rw [hW]); refine HA.out.mono ?_; rintro e w1 ⟨rfl, hb⟩; have HBc := Lib.hid hb; (try rw [hg]); have s0 := HCs.out _ hb; obtain ⟨s0, t0⟩ := s0; clear hb)
        | (go_at_call 9; (with_reducible refine (HF.out _ HBc.out).mono ?_); rintro e w2 ⟨rfl, hb⟩; have HBc := Lib.hid (bn12 HBc.out hb); clear s0 t0; obtain ⟨s0, t0⟩ := HCs.out _ HBc.out; clear hb)
        | (go_at_call 9; (with_reducible refine (HG.out _ HBc.out).mono ?_); rintro e w3 ⟨rfl, hb⟩; have HBc := Lib.hid (bn12 HBc.out hb); clear s0 t0; obtain ⟨s0, t0⟩ := HCs.out _ HBc.out; clear hb))
      go_ret
      exact ⟨rfl, bn12 HW.out HBc.out⟩
    | true =>
      rw [hfew] at HF
      rw [hfew2] at HG
      have hwu := few12_wee hu hfew
      have hwv := few12_wee hv hfew2
      have HAu : Hid (∀ wx, Below W.heap.size W wx → At12 wx u A n c) := fun wx hb => ⟨hs.below (bn12 HW.out hb), hn, hc.1, hc.2, hwu⟩
      have HAv : Hid (∀ wx, Below W.heap.size W wx → At12 wx v B m d) := fun wx hb => ⟨ht.below (bn12 HW.out hb), hm, hd.1, hd.2, hwv⟩
      obtain ⟨b, hb⟩ : ∃ b, same12 u v = b := ⟨_, rfl⟩
      have hb2 : same12 v u = b := (same12_turn v u).trans hb
      have H1 := Lib.hid (fun wx h (a : At12 wx u A n c) (e : At12 wx v B m d) => csame12 HC.out hb wx h a e)
      have H2 := Lib.hid (fun wx (a : At12 wx u A n c) (e : At12 wx v B m d) => rsame12_is hb wx a e)
      have H3 := Lib.hid (fun wx h (a : At12 wx u A n c) => csame12 HC.out (same12_self u) wx h a a)
      have H4 := Lib.hid (fun wx h (a : At12 wx u A n c) (e : At12 wx v B m d) => csame12 HC.out hb2 wx h e a)
      rw [hg] at HCs
      clear hs hn hl hc hf hu ht hm hlm hd hf2 hv hb hb2 hfew hfew2 hwu hwv
      go_enter Tryd.func4, Tryd.ntmps4
      go_wp2_with (first
        | (go_at_call 8; (try rw [hW]); refine HA.out.mono ?_; rintro e w1 ⟨rfl, hb⟩; have HBc := Lib.hid hb; (try rw [hg]); have s0 := HCs.out _ hb; obtain ⟨s0, t0⟩ := s0; clear hb)
        | (go_at_call 9; (with_reducible refine (HF.out _ HBc.out).mono ?_); rintro e w2 ⟨rfl, hb⟩; have HBc := Lib.hid (bn12 HBc.out hb); clear s0 t0; obtain ⟨s0, t0⟩ := HCs.out _ HBc.out; clear hb)
        | (go_at_call 9; (with_reducible refine (HG.out _ HBc.out).mono ?_); rintro e w3 ⟨rfl, hb⟩; have HBc := Lib.hid (bn12 HBc.out hb); clear s0 t0; obtain ⟨s0, t0⟩ := HCs.out _ HBc.out; clear hb))
      clear hW hg
      have s1 := And.intro s0 t0
      go_region_held3 (fun wx => blk12 wx g = some (.cells #[.string u.scheme, .string u.user, .string u.pass, .int .i64 u.kind, .string u.name, .int .u32 (u.v4 : Int), .int .u16 (u.a0 : Int), .int .u16 (u.a1 : Int), .int .u16 (u.a2 : Int), .int .u16 (u.a3 : Int), .int .u16 (u.a4 : Int), .int .u16 (u.a5 : Int), .int .u16 (u.a6 : Int), .int .u16 (u.a7 : Int), .int .i64 u.port, .bool u.opaq, .slice A n c, .bool u.hasQ, .string u.query, .bool u.hasF, .string u.frag] 29 (0, 0)) ∧ blk12 wx (g + 1) = some (.cells #[.string v.scheme, .string v.user, .string v.pass, .int .i64 v.kind, .string v.name, .int .u32 (v.v4 : Int), .int .u16 (v.a0 : Int), .int .u16 (v.a1 : Int), .int .u16 (v.a2 : Int), .int .u16 (v.a3 : Int), .int .u16 (v.a4 : Int), .int .u16 (v.a5 : Int), .int .u16 (v.a6 : Int), .int .u16 (v.a7 : Int), .int .i64 v.port, .bool v.opaq, .slice B m d, .bool v.hasQ, .string v.query, .bool v.hasF, .string v.frag] 29 (0, 0))) (first | exact s1 | exact hS4 | exact hS5 | exact hS6 | exact hS7 | go_keep) (first
        | (go_at_call 14; (with_reducible refine (H1.out _ (bn12 HW.out (by first | exact HBc.out | exact HBc.out.drew)) (HAu.out _ (by first | exact HBc.out | exact HBc.out.drew)) (HAv.out _ (by first | exact HBc.out | exact HBc.out.drew))).mono ?_); rintro e w4 ⟨rfl, hb1⟩; (first | have HBc := Lib.hid (bn12 HBc.out hb1) | have HBc := Lib.hid (bnd12 HBc.out hb1)); have hS4 := (HCs.out _ HBc.out); clear hb1)
        | (go_at_call 15; (with_reducible refine (H2.out _ (HAu.out _ (by first | exact HBc.out | exact HBc.out.drew)) (HAv.out _ (by first | exact HBc.out | exact HBc.out.drew))).mono ?_); rintro e w5 ⟨rfl, hb1⟩; (first | have HBc := Lib.hid (bn12 HBc.out hb1) | have HBc := Lib.hid (bnd12 HBc.out hb1)); have hS5 := (HCs.out _ HBc.out); clear hb1)
        | (go_at_call 14; (with_reducible refine (H3.out _ (bn12 HW.out (by first | exact HBc.out | exact HBc.out.drew)) (HAu.out _ (by first | exact HBc.out | exact HBc.out.drew))).mono ?_); rintro e w6 ⟨rfl, hb1⟩; (first | have HBc := Lib.hid (bn12 HBc.out hb1) | have HBc := Lib.hid (bnd12 HBc.out hb1)); have hS6 := (HCs.out _ HBc.out); clear hb1)
        | (go_at_call 14; (with_reducible refine (H4.out _ (bn12 HW.out (by first | exact HBc.out | exact HBc.out.drew)) (HAu.out _ (by first | exact HBc.out | exact HBc.out.drew)) (HAv.out _ (by first | exact HBc.out | exact HBc.out.drew))).mono ?_); rintro e w7 ⟨rfl, hb1⟩; (first | have HBc := Lib.hid (bn12 HBc.out hb1) | have HBc := Lib.hid (bnd12 HBc.out hb1)); have hS7 := (HCs.out _ HBc.out); clear hb1))
      all_goals
        go_wp2
        go_ret
        exact ⟨by simp, bn12 HW.out HBc.out⟩
end Go.Proofs.YtliklhldlofnjaaDoor

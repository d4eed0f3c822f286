/-
  In this text, one behind the other: RecLawT.
-/
import Derived.BigQuiet
import Derived.Deep.AppendLies
import Derived.Deep.DrawnRows
import Derived.Deep.Light
import Derived.Deep.LoopGhost
import Derived.Deep.QuietTactic
import Derived.Deep.RegionHeld3
import Derived.Deep.RegionWith
import Derived.Deep.WholeRow
import Derived.DeepKeys
import Derived.IntWalk
import Derived.LaidEql
import Derived.Laws.AppendOwnNone
import Derived.Laws.BitsLemmas
import Derived.Laws.Cover4
import Derived.Laws.Externs
import Derived.Laws.RangeString
import Derived.Laws.Rows
import Derived.Laws.Runes
import Derived.Laws.Tables
import Derived.Lib.Hide
import Derived.Maps.AppendAt
import Derived.RowKitTokens
import Derived.Shelf.Strings.Builder1
import Derived.Stop.Asserts
import Derived.WalkKit
import Derived.WalkLawsBesides
import Derived.WalkMore
import Derived.WalkSpells
import Derived.Test.YtliklhldlofnjaaDoorRows
import Derived.Test.YtliklhldlofnjaaDoorG32
import Derived.Test.YtliklhldlofnjaaDoorG11
/-
  The law RecordTexts of layer 12, over the program's contracts (written by mkrec.py).
-/
namespace Go.Proofs.YtliklhldlofnjaaDoor
open Go.RowKit
attribute [local go_sem ↓] foldL12 foldS12
attribute [local go_sem] loadU_run viaRow_cells storeU_run viaStore_cells setRow_here12 heap_here12 heap_old12 heap_put12 put12_cells heap_other12 blk_drew12

theorem bnd12 {w a b : World} (h : Below w.heap.size w a) (k : Below a.drew.heap.size a.drew b) : Below w.heap.size w b := bn12 (h.drew) k
set_option maxHeartbeats 4000000 in
set_option maxRecDepth 100000 in
theorem law_texts12 (u : Url12) (A : Option Addr) (n c : Nat) (bare : Bool) (w : World) (hs : Segs w A u.path) (hn : u.path.length = n) (hl : n ≤ maxLen) (hc : n ≤ c ∧ (A = none → c = 0)) (hf : Fits12 u) (hu : Nums12 u) (C : RecC w) :
    Calls Tryd.prog 3 #[.agg #[.string u.scheme, .string u.user, .string u.pass, .int .i64 u.kind, .string u.name, .int .u32 (u.v4 : Int), .int .u16 (u.a0 : Int), .int .u16 (u.a1 : Int), .int .u16 (u.a2 : Int), .int .u16 (u.a3 : Int), .int .u16 (u.a4 : Int), .int .u16 (u.a5 : Int), .int .u16 (u.a6 : Int), .int .u16 (u.a7 : Int), .int .i64 u.port, .bool u.opaq, .slice A n c, .bool u.hasQ, .string u.query, .bool u.hasF, .string u.frag], .bool bare] w (Yes12 w) := by
  have HC := Lib.hid C
  clear C
  obtain ⟨W, hW⟩ : ∃ W, (w.alloc (.cells #[.string u.scheme, .string u.user, .string u.pass, .int .i64 u.kind, .string u.name, .int .u32 (u.v4 : Int), .int .u16 (u.a0 : Int), .int .u16 (u.a1 : Int), .int .u16 (u.a2 : Int), .int .u16 (u.a3 : Int), .int .u16 (u.a4 : Int), .int .u16 (u.a5 : Int), .int .u16 (u.a6 : Int), .int .u16 (u.a7 : Int), .int .i64 u.port, .bool u.opaq, .slice A n c, .bool u.hasQ, .string u.query, .bool u.hasF, .string u.frag] 29)) = W := ⟨_, rfl⟩
  have HW : Hid (Below w.heap.size w W) := by show Below w.heap.size w W; rw [← hW]; exact bel12 _ _
  have HCs : Hid (∀ wx, Below W.heap.size W wx → blk12 wx w.heap.size = some (.cells #[.string u.scheme, .string u.user, .string u.pass, .int .i64 u.kind, .string u.name, .int .u32 (u.v4 : Int), .int .u16 (u.a0 : Int), .int .u16 (u.a1 : Int), .int .u16 (u.a2 : Int), .int .u16 (u.a3 : Int), .int .u16 (u.a4 : Int), .int .u16 (u.a5 : Int), .int .u16 (u.a6 : Int), .int .u16 (u.a7 : Int), .int .i64 u.port, .bool u.opaq, .slice A n c, .bool u.hasQ, .string u.query, .bool u.hasF, .string u.frag] 29 (0, 0))) := by
    show ∀ wx, Below W.heap.size W wx → _
    subst hW
    exact fun wx hb => ((cells12 (.string u.scheme) (.string u.user) (.string u.pass) (.int .i64 u.kind) (.string u.name) (.int .u32 (u.v4 : Int)) (.int .u16 (u.a0 : Int)) (.int .u16 (u.a1 : Int)) (.int .u16 (u.a2 : Int)) (.int .u16 (u.a3 : Int)) (.int .u16 (u.a4 : Int)) (.int .u16 (u.a5 : Int)) (.int .u16 (u.a6 : Int)) (.int .u16 (u.a7 : Int)) (.int .i64 u.port) (.bool u.opaq) (.slice A n c) (.bool u.hasQ) (.string u.query) (.bool u.hasF) (.string u.frag)) wx hb).1.out
  have HA : Hid (Calls Tryd.prog 8 #[] W (Yes12 W)) := awake12 (HC.out.behind HW.out)
  have HF := Lib.hid (fun wx (hb : Below W.heap.size W wx) => rfew_is (b := few12 u) rfl A n c hn hl wx (hs.below (bn12 HW.out hb)) hf)
  cases hfew : few12 u with
  | true =>
    rw [hfew] at HF
    have hwee := few12_wee hu hfew
    have HAt : Hid (∀ wx, Below W.heap.size W wx → At12 wx u A n c) := fun wx hb => ⟨hs.below (bn12 HW.out hb), hn, hc.1, hc.2, hwee⟩
    obtain ⟨t, ht⟩ : ∃ t, txt10 (text12 u bare) = t := ⟨_, rfl⟩
    obtain ⟨p, hp⟩ : ∃ p, txt10 (path12 u) = p := ⟨_, rfl⟩
    have HT := Lib.hid (fun wx hb (ha : At12 wx u A n c) => ctext12 HC.out ht wx hb ha)
    have HU := Lib.hid (fun wx (ha : At12 wx u A n c) => rtext12_is ht A n c ha.len wx ha.segs ha.wee)
    have HP := Lib.hid (fun wx hb (ha : At12 wx u A n c) => cpath12 HC.out hp wx hb ha)
    have HQ := Lib.hid (fun wx (ha : At12 wx u A n c) => rpath_is hp A n c ha.len wx ha.segs ha.wee)
    obtain ⟨g, hg⟩ : ∃ g, w.heap.size = g := ⟨_, rfl⟩
    rw [hg] at HCs
    clear ht hp hfew hs hn hl hc hf hu hwee
    go_enter Tryd.func3, Tryd.ntmps3
    go_wp2_with (first
      | (go_at_call 8; (try rw [hW]); refine HA.out.mono ?_; rintro e w1 ⟨rfl, hb⟩; have HBc := Lib.hid hb; (try rw [hg]); have s0 := HCs.out _ hb; clear hb)
      | (go_at_call 9; (with_reducible refine (HF.out _ HBc.out).mono ?_); rintro e w2 ⟨rfl, hb⟩; have HBc := Lib.hid (bn12 HBc.out hb); have s1 := HCs.out _ HBc.out; clear hb))
    clear hW hg
    go_region_held3 (fun wx => blk12 wx g = some (.cells #[.string u.scheme, .string u.user, .string u.pass, .int .i64 u.kind, .string u.name, .int .u32 (u.v4 : Int), .int .u16 (u.a0 : Int), .int .u16 (u.a1 : Int), .int .u16 (u.a2 : Int), .int .u16 (u.a3 : Int), .int .u16 (u.a4 : Int), .int .u16 (u.a5 : Int), .int .u16 (u.a6 : Int), .int .u16 (u.a7 : Int), .int .i64 u.port, .bool u.opaq, .slice A n c, .bool u.hasQ, .string u.query, .bool u.hasF, .string u.frag] 29 (0, 0))) (first | exact s1 | exact hS3 | exact hS4 | exact hS5 | exact hS6 | go_keep) (first
      | (go_at_call 10; (with_reducible refine (HT.out _ (bn12 HW.out (by first | exact HBc.out | exact HBc.out.drew)) (HAt.out _ (by first | exact HBc.out | exact HBc.out.drew))).mono ?_); rintro e w3 ⟨rfl, hb1⟩; (first | have HBc := Lib.hid (bn12 HBc.out hb1) | have HBc := Lib.hid (bnd12 HBc.out hb1)); have hS3 := (HCs.out _ HBc.out); clear hb1)
      | (go_at_call 11; (with_reducible refine (HU.out _ (HAt.out _ (by first | exact HBc.out | exact HBc.out.drew))).mono ?_); rintro e w4 ⟨rfl, hb1⟩; (first | have HBc := Lib.hid (bn12 HBc.out hb1) | have HBc := Lib.hid (bnd12 HBc.out hb1)); have hS4 := (HCs.out _ HBc.out); clear hb1)
      | (go_at_call 12; (with_reducible refine (HP.out _ (bn12 HW.out (by first | exact HBc.out | exact HBc.out.drew)) (HAt.out _ (by first | exact HBc.out | exact HBc.out.drew))).mono ?_); rintro e w5 ⟨rfl, hb1⟩; (first | have HBc := Lib.hid (bn12 HBc.out hb1) | have HBc := Lib.hid (bnd12 HBc.out hb1)); have hS5 := (HCs.out _ HBc.out); clear hb1)
      | (go_at_call 13; (with_reducible refine (HQ.out _ (HAt.out _ (by first | exact HBc.out | exact HBc.out.drew))).mono ?_); rintro e w6 ⟨rfl, hb1⟩; (first | have HBc := Lib.hid (bn12 HBc.out hb1) | have HBc := Lib.hid (bnd12 HBc.out hb1)); have hS6 := (HCs.out _ HBc.out); clear hb1))
    all_goals
      go_wp2
      go_ret
      exact ⟨by simp, bn12 HW.out HBc.out⟩
  | false =>
    rw [hfew] at HF
    obtain ⟨g, hg⟩ : ∃ g, w.heap.size = g := ⟨_, rfl⟩
    rw [hg] at HCs
    clear hs hn hl hc hf hu
    go_enter Tryd.func3, Tryd.ntmps3
    go_wp2_with (first
      | (go_at_call 8; (try rw [hW]); refine HA.out.mono ?_; rintro e w1 ⟨rfl, hb⟩; have HBc := Lib.hid hb; (try rw [hg]); have s0 := HCs.out _ hb; clear hb)
      | (go_at_call 9; (with_reducible refine (HF.out _ HBc.out).mono ?_); rintro e w2 ⟨rfl, hb⟩; have HBc := Lib.hid (bn12 HBc.out hb); clear hb))
    go_ret
    exact ⟨rfl, bn12 HW.out HBc.out⟩
end Go.Proofs.YtliklhldlofnjaaDoor

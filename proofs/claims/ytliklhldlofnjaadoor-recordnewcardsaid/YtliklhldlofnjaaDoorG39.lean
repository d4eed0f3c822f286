/-
  In this text, one behind the other: RecLawN.
-/
import Derived.BigQuiet
import Derived.Deep.AppendLies
import Derived.Deep.DrawnRows
import Derived.Deep.Light
import Derived.Deep.LoopGhost
import Derived.Deep.QuietTactic
import Derived.Deep.RegionHeld3
import Derived.Deep.RegionWith
import Derived.Deep.WholeRow
import Derived.DeepKeys
import Derived.IntWalk
import Derived.LaidEql
import Derived.Laws.AppendOwnNone
import Derived.Laws.BitsLemmas
import Derived.Laws.Cover4
import Derived.Laws.Externs
import Derived.Laws.RangeString
import Derived.Laws.Rows
import Derived.Laws.Runes
import Derived.Laws.Tables
import Derived.Lib.Hide
import Derived.Maps.AppendAt
import Derived.RowKitTokens
import Derived.Shelf.Strings.Builder1
import Derived.Stop.Asserts
import Derived.WalkKit
import Derived.WalkLawsBesides
import Derived.WalkMore
import Derived.WalkSpells
import Derived.Test.YtliklhldlofnjaaDoorRows
import Derived.Test.YtliklhldlofnjaaDoorG32
import Derived.Test.YtliklhldlofnjaaDoorG11
/-
  The law RecordNew of layer 12, over the program's contracts (written by mkrec.py).
-/
namespace Go.Proofs.YtliklhldlofnjaaDoor
open Go.RowKit
attribute [local go_sem ↓] foldL12 foldS12
attribute [local go_sem] loadU_run viaRow_cells storeU_run viaStore_cells setRow_here12 heap_here12 heap_old12 heap_put12 put12_cells heap_other12 blk_drew12


def newU (s : ByteArray) : Url12 := (⟨s, ⟨#[]⟩, ⟨#[]⟩, 0, ⟨#[]⟩, 0, 0, 0, 0, 0, 0, 0, 0, 0, -1, false, [], false, ⟨#[]⟩, false, ⟨#[]⟩⟩ : Url12)
theorem newU_wee {s : ByteArray} (h : s.size ≤ 100) : Wee12 (newU s) := ⟨⟨by show (-9223372036854775808 : Int) ≤ 0; decide, by show (0 : Int) ≤ 9223372036854775807; decide, by show (-9223372036854775808 : Int) ≤ -1; decide, by show (-1 : Int) ≤ 9223372036854775807; decide, by show (0 : Nat) < 4294967296; decide, by show ∀ n ∈ [0, 0, 0, 0, 0, 0, 0, 0], n < 65536; decide⟩, by show (0 : Nat) ≤ 50; decide, by show ∀ p ∈ ([] : List Seg), _; simp, by show s.size ≤ 200; omega, by show (0 : Nat) ≤ 200; decide, by show (0 : Nat) ≤ 200; decide, by show (0 : Nat) ≤ 200; decide, by show (0 : Nat) ≤ 200; decide, by show (0 : Nat) ≤ 200; decide⟩
theorem newU_at {s : ByteArray} (h : s.size ≤ 100) (w : World) : At12 w (newU s) none 0 0 := ⟨(fun i x hx => by simp [newU] at hx), rfl, Nat.le_refl _, (fun _ => rfl), newU_wee h⟩
theorem newU_text (s : ByteArray) : txt10 (text12 (newU s) false) = s ++ ⟨#[58]⟩ := by
  refine ByteArray.ext (Array.toList_inj.1 ?_)
  simp [newU, txt10, text12, frag12, front12, dotted12, path12, query12, ByteArray.data_append, txt11]
theorem newU_path (s : ByteArray) : txt10 (path12 (newU s)) = ⟨#[]⟩ := rfl
set_option maxHeartbeats 8000000 in
set_option maxRecDepth 100000 in
theorem law_new12 (s : ByteArray) (w : World) (hs : s.size ≤ maxLen) (C : RecC w) :
    Calls Tryd.prog 7 #[.string s] w (Yes12 w) := by
  unfold maxLen at hs
  have HC := Lib.hid C
  have HA : Hid (Calls Tryd.prog 8 #[] w (Yes12 w)) := awake12 C
  clear C
  by_cases h100 : s.size ≤ 100
  · have HN := Lib.hid (fun w hb => HC.out.new s w hb (by omega))
    have HAt := Lib.hid (newU_at h100)
    have H1 := Lib.hid (fun wx hb => csame12 HC.out (same12_self (newU s)) wx hb (newU_at h100 wx) (newU_at h100 wx))
    have H2 := Lib.hid (fun wx hb => ctext12 HC.out (newU_text s) wx hb (newU_at h100 wx))
    have H3 := Lib.hid (fun wx hb => cpath12 HC.out (newU_path s) wx hb (newU_at h100 wx))
    go_enter Tryd.func7, Tryd.ntmps7
    go_wp2_with (first
      | (go_at_call 8; refine HA.out.mono ?_; rintro e w1 ⟨rfl, hb⟩; have HBc := Lib.hid hb; clear hb)
      | (go_at_call 16; (with_reducible refine (HN.out _ HBc.out).mono ?_); rintro e w2 ⟨rfl, hb⟩; have HBc := Lib.hid (bn12 HBc.out hb); clear hb; (have HX : Hid (∀ wx, Below (w2.alloc (.cells #[.string s, .string ⟨#[]⟩, .string ⟨#[]⟩, .int .i64 0, .string ⟨#[]⟩, .int .u32 0, .int .u16 0, .int .u16 0, .int .u16 0, .int .u16 0, .int .u16 0, .int .u16 0, .int .u16 0, .int .u16 0, .int .i64 (-1), .bool false, .slice none 0 0, .bool false, .string ⟨#[]⟩, .bool false, .string ⟨#[]⟩] 29)).heap.size (w2.alloc (.cells #[.string s, .string ⟨#[]⟩, .string ⟨#[]⟩, .int .i64 0, .string ⟨#[]⟩, .int .u32 0, .int .u16 0, .int .u16 0, .int .u16 0, .int .u16 0, .int .u16 0, .int .u16 0, .int .u16 0, .int .u16 0, .int .i64 (-1), .bool false, .slice none 0 0, .bool false, .string ⟨#[]⟩, .bool false, .string ⟨#[]⟩] 29)) wx → blk12 wx w2.heap.size = some (.cells #[.string s, .string ⟨#[]⟩, .string ⟨#[]⟩, .int .i64 0, .string ⟨#[]⟩, .int .u32 0, .int .u16 0, .int .u16 0, .int .u16 0, .int .u16 0, .int .u16 0, .int .u16 0, .int .u16 0, .int .u16 0, .int .i64 (-1), .bool false, .slice none 0 0, .bool false, .string ⟨#[]⟩, .bool false, .string ⟨#[]⟩] 29 (0, 0))) := fun wx hb => blk_below12 (heap_here12 _ _ _ rfl) hb); have HB2 := Lib.hid (Below.refl (w2.alloc (.cells #[.string s, .string ⟨#[]⟩, .string ⟨#[]⟩, .int .i64 0, .string ⟨#[]⟩, .int .u32 0, .int .u16 0, .int .u16 0, .int .u16 0, .int .u16 0, .int .u16 0, .int .u16 0, .int .u16 0, .int .u16 0, .int .i64 (-1), .bool false, .slice none 0 0, .bool false, .string ⟨#[]⟩, .bool false, .string ⟨#[]⟩] 29)).heap.size (w2.alloc (.cells #[.string s, .string ⟨#[]⟩, .string ⟨#[]⟩, .int .i64 0, .string ⟨#[]⟩, .int .u32 0, .int .u16 0, .int .u16 0, .int .u16 0, .int .u16 0, .int .u16 0, .int .u16 0, .int .u16 0, .int .u16 0, .int .i64 (-1), .bool false, .slice none 0 0, .bool false, .string ⟨#[]⟩, .bool false, .string ⟨#[]⟩] 29))))
      | (go_at_call 14; refine (H1.out _ (bn12 HBc.out (bn12 (bel12 _ _) HB2.out))).mono ?_; rintro e w3 ⟨rfl, hb⟩; have HB2 := Lib.hid (bn12 HB2.out hb); have q0 := HX.out _ HB2.out; clear hb)
      | (go_at_call 10; refine (H2.out _ (bn12 HBc.out (bn12 (bel12 _ _) HB2.out))).mono ?_; rintro e w4 ⟨rfl, hb⟩; have HB2 := Lib.hid (bn12 HB2.out hb); clear q0; have q0 := HX.out _ HB2.out; clear hb)
      | (go_at_call 12; refine (H3.out _ (bn12 HBc.out (bn12 (bel12 _ _) HB2.out))).mono ?_; rintro e w5 ⟨rfl, hb⟩; have HB2 := Lib.hid (bn12 HB2.out hb); clear q0; clear hb))
    go_ret
    exact ⟨by simp, bn12 HBc.out (bn12 (bel12 _ _) HB2.out)⟩
  · go_enter Tryd.func7, Tryd.ntmps7
    go_wp2_with (go_at_call 8; refine HA.out.mono ?_; rintro e w1 ⟨rfl, hb⟩; have HBc := Lib.hid hb; clear hb)
    go_ret
    exact ⟨rfl, HBc.out⟩
end Go.Proofs.YtliklhldlofnjaaDoor

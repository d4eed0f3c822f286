/-
  In this text, one behind the other: RecLawB.
-/
import Derived.BigQuiet
import Derived.Deep.AppendLies
import Derived.Deep.DrawnRows
import Derived.Deep.Light
import Derived.Deep.LoopGhost
import Derived.Deep.QuietTactic
import Derived.Deep.RegionHeld3
import Derived.Deep.RegionWith
import Derived.Deep.WholeRow
import Derived.DeepKeys
import Derived.IntWalk
import Derived.LaidEql
import Derived.Laws.AppendOwnNone
import Derived.Laws.BitsLemmas
import Derived.Laws.Cover4
import Derived.Laws.Externs
import Derived.Laws.RangeString
import Derived.Laws.Rows
import Derived.Laws.Runes
import Derived.Laws.Tables
import Derived.Lib.Hide
import Derived.Maps.AppendAt
import Derived.RowKitTokens
import Derived.Shelf.Strings.Builder1
import Derived.Stop.Asserts
import Derived.WalkKit
import Derived.WalkLawsBesides
import Derived.WalkMore
import Derived.WalkSpells
import Derived.Test.YtliklhldlofnjaaDoorRows
import Derived.Test.YtliklhldlofnjaaDoorG32
import Derived.Test.YtliklhldlofnjaaDoorG11
/-
  The law RecordBare of layer 12, over the program's contracts (written by mkrec.py).
-/
namespace Go.Proofs.YtliklhldlofnjaaDoor
open Go.RowKit
attribute [local go_sem ↓] foldL12 foldS12
attribute [local go_sem] loadU_run viaRow_cells storeU_run viaStore_cells setRow_here12 heap_here12 heap_old12 heap_put12 put12_cells heap_other12 blk_drew12


theorem text12_len {u : Url12} (h : Wee12 u) (b : Bool) : (text12 u b).length ≤ 100000 := by
  have h1 := path12_len h
  have z1 := h.scheme; have z2 := h.user; have z3 := h.pass; have z5 := h.query; have z6 := h.frag
  have zT : (textK u.kind u.name.data.toList u.v4 u.v6).length ≤ 200 := textK_len (by have := h.name; simpa using this) h.nums.v4 rfl h.nums.v6
  have zN : (dcm10 u.port.toNat).length ≤ 19 := dcm10_len 18 _ (by have := h.nums.p1; omega)
  have a1 : (cred12 u).length ≤ 402 := by
    unfold cred12
    split
    · simp
    · split <;> simp <;> omega
  have a2 : (port12 u).length ≤ 20 := by
    unfold port12
    split <;> simp <;> omega
  have a3 : (front12 u).length ≤ 700 := by
    unfold front12
    split
    · simp; omega
    · split <;> simp
  have a4 : (query12 u).length ≤ 201 := by
    unfold query12
    split <;> simp <;> omega
  have a5 : (frag12 u b).length ≤ 201 := by
    unfold frag12
    split <;> simp <;> omega
  unfold text12
  simp only [List.length_append, List.length_cons]
  have := len10 u.scheme
  omega
theorem text12_frag (u : Url12) (f : ByteArray) : txt10 (text12 ({ u with hasF := true, frag := f } : Url12) false) = txt10 (text12 u true) ++ ⟨#[35]⟩ ++ f := by
  refine ByteArray.ext (Array.toList_inj.1 ?_)
  simp [txt10, text12, frag12, front12, cred12, port12, dotted12, path12, query12, Url12.v6, ByteArray.data_append]
theorem text12_bare (u : Url12) (f : ByteArray) : text12 ({ u with hasF := true, frag := f } : Url12) true = text12 u true := by
  simp [text12, frag12, front12, cred12, port12, dotted12, path12, query12, Url12.v6]
theorem text12_none (u : Url12) : text12 ({ u with hasF := false } : Url12) false = text12 u true := by
  simp [text12, frag12, front12, cred12, port12, dotted12, path12, query12, Url12.v6]
theorem wee_frag {u : Url12} (h : Wee12 u) {f : ByteArray} (hf : f.size ≤ 100) : Wee12 ({ u with hasF := true, frag := f } : Url12) := ⟨⟨h.nums.k0, h.nums.k1, h.nums.p0, h.nums.p1, h.nums.v4, h.nums.v6⟩, h.len, h.segs, h.scheme, h.user, h.pass, h.name, h.query, by show f.size ≤ 200; omega⟩
theorem wee_none {u : Url12} (h : Wee12 u) : Wee12 ({ u with hasF := false } : Url12) := ⟨⟨h.nums.k0, h.nums.k1, h.nums.p0, h.nums.p1, h.nums.v4, h.nums.v6⟩, h.len, h.segs, h.scheme, h.user, h.pass, h.name, h.query, h.frag⟩
theorem two_blk12 (w : World) (a b : Obj) : ∀ wx, Below ((w.alloc a).alloc b).heap.size ((w.alloc a).alloc b) wx → blk12 wx w.heap.size = some a ∧ blk12 wx (w.heap.size + 1) = some b := by
  intro wx hb
  have h1 : blk12 ((w.alloc a).alloc b) w.heap.size = some a := by rw [heap_old12 _ _ _ (by simp), heap_here12 _ _ _ rfl]
  have h2 : blk12 ((w.alloc a).alloc b) (w.heap.size + 1) = some b := heap_here12 _ _ _ (by simp)
  exact ⟨blk_below12 h1 hb, blk_below12 h2 hb⟩
set_option maxHeartbeats 8000000 in
set_option maxRecDepth 100000 in
theorem law_bare12 (u : Url12) (A : Option Addr) (n c : Nat) (f : ByteArray) (w : World) (hs : Segs w A u.path) (hn : u.path.length = n) (hl : n ≤ maxLen) (hc : n ≤ c ∧ (A = none → c = 0)) (hf : Fits12 u) (hu : Nums12 u) (hff : f.size ≤ maxLen) (C : RecC w) :
    Calls Tryd.prog 6 #[.agg #[.string u.scheme, .string u.user, .string u.pass, .int .i64 u.kind, .string u.name, .int .u32 (u.v4 : Int), .int .u16 (u.a0 : Int), .int .u16 (u.a1 : Int), .int .u16 (u.a2 : Int), .int .u16 (u.a3 : Int), .int .u16 (u.a4 : Int), .int .u16 (u.a5 : Int), .int .u16 (u.a6 : Int), .int .u16 (u.a7 : Int), .int .i64 u.port, .bool u.opaq, .slice A n c, .bool u.hasQ, .string u.query, .bool u.hasF, .string u.frag], .string f] w (Yes12 w) := by
  have HC := Lib.hid C
  clear C
  obtain ⟨W, hW⟩ : ∃ W, (w.alloc (.cells #[.string u.scheme, .string u.user, .string u.pass, .int .i64 u.kind, .string u.name, .int .u32 (u.v4 : Int), .int .u16 (u.a0 : Int), .int .u16 (u.a1 : Int), .int .u16 (u.a2 : Int), .int .u16 (u.a3 : Int), .int .u16 (u.a4 : Int), .int .u16 (u.a5 : Int), .int .u16 (u.a6 : Int), .int .u16 (u.a7 : Int), .int .i64 u.port, .bool u.opaq, .slice A n c, .bool u.hasQ, .string u.query, .bool u.hasF, .string u.frag] 29)) = W := ⟨_, rfl⟩
  have HW : Hid (Below w.heap.size w W) := by show Below w.heap.size w W; rw [← hW]; exact bel12 _ _
  have HCs : Hid (∀ wx, Below W.heap.size W wx → blk12 wx w.heap.size = some (.cells #[.string u.scheme, .string u.user, .string u.pass, .int .i64 u.kind, .string u.name, .int .u32 (u.v4 : Int), .int .u16 (u.a0 : Int), .int .u16 (u.a1 : Int), .int .u16 (u.a2 : Int), .int .u16 (u.a3 : Int), .int .u16 (u.a4 : Int), .int .u16 (u.a5 : Int), .int .u16 (u.a6 : Int), .int .u16 (u.a7 : Int), .int .i64 u.port, .bool u.opaq, .slice A n c, .bool u.hasQ, .string u.query, .bool u.hasF, .string u.frag] 29 (0, 0))) := by
    show ∀ wx, Below W.heap.size W wx → _
    subst hW
    exact fun wx hb => ((cells12 (.string u.scheme) (.string u.user) (.string u.pass) (.int .i64 u.kind) (.string u.name) (.int .u32 (u.v4 : Int)) (.int .u16 (u.a0 : Int)) (.int .u16 (u.a1 : Int)) (.int .u16 (u.a2 : Int)) (.int .u16 (u.a3 : Int)) (.int .u16 (u.a4 : Int)) (.int .u16 (u.a5 : Int)) (.int .u16 (u.a6 : Int)) (.int .u16 (u.a7 : Int)) (.int .i64 u.port) (.bool u.opaq) (.slice A n c) (.bool u.hasQ) (.string u.query) (.bool u.hasF) (.string u.frag)) wx hb).1.out
  have HA : Hid (Calls Tryd.prog 8 #[] W (Yes12 W)) := awake12 (HC.out.behind HW.out)
  have HF := Lib.hid (fun wx (hb : Below W.heap.size W wx) => rfew_is (b := few12 u) rfl A n c hn hl wx (hs.below (bn12 HW.out hb)) hf)
  obtain ⟨g, hg⟩ : ∃ g, w.heap.size = g := ⟨_, rfl⟩
  unfold maxLen at hff
  have hgW : g < W.heap.size := by rw [← hW, ← hg]; simp
  cases hfew : few12 u with
  | false =>
    rw [hfew] at HF
    rw [hg] at HCs
    clear hs hn hl hc hf hu
    go_enter Tryd.func6, Tryd.ntmps6
    go_wp2_with (first
      | (go_at_call 8; (try rw [hW]); refine HA.out.mono ?_; rintro e w1 ⟨rfl, hb⟩; have HBc := Lib.hid hb; (try rw [hg]); have s0 := HCs.out _ hb; clear hb)
      | (go_at_call 9; (with_reducible refine (HF.out _ HBc.out).mono ?_); rintro e w2 ⟨rfl, hb⟩; have HBc := Lib.hid (bn12 HBc.out hb); clear hb))
    go_ret
    exact ⟨rfl, bn12 HW.out HBc.out⟩
  | true =>
    rw [hfew] at HF
    by_cases h100 : f.size ≤ 100
    · have hwee := few12_wee hu hfew
      have HAt : Hid (∀ wx, Below W.heap.size W wx → At12 wx u A n c) := fun wx hb => ⟨hs.below (bn12 HW.out hb), hn, hc.1, hc.2, hwee⟩
      have HA1 : Hid (∀ wx, Below W.heap.size W wx → At12 wx ({ u with hasF := true, frag := f } : Url12) A n c) := fun wx hb => ⟨hs.below (bn12 HW.out hb), hn, hc.1, hc.2, wee_frag hwee h100⟩
      have HA2 : Hid (∀ wx, Below W.heap.size W wx → At12 wx ({ u with hasF := false } : Url12) A n c) := fun wx hb => ⟨hs.below (bn12 HW.out hb), hn, hc.1, hc.2, wee_none hwee⟩
      obtain ⟨t, ht⟩ : ∃ t, txt10 (text12 u true) = t := ⟨_, rfl⟩
      have zt : t.size ≤ 100000 := by rw [← ht, txt10_size]; exact text12_len hwee true
      have H1 := Lib.hid (fun wx hb (ha : At12 wx u A n c) => ctext12 HC.out ht wx hb ha)
      have H2 := Lib.hid (fun wx hb (ha : At12 wx ({ u with hasF := true, frag := f } : Url12) A n c) => ctext12 HC.out (bare := false) (t := t ++ ⟨#[35]⟩ ++ f) (by rw [text12_frag, ht]) wx hb ha)
      have H3 := Lib.hid (fun wx hb (ha : At12 wx ({ u with hasF := true, frag := f } : Url12) A n c) => ctext12 HC.out (bare := true) (t := t) (by rw [text12_bare, ht]) wx hb ha)
      have H4 := Lib.hid (fun wx hb (ha : At12 wx ({ u with hasF := false } : Url12) A n c) => ctext12 HC.out (bare := false) (t := t) (by rw [text12_none, ht]) wx hb ha)
      rw [hg] at HCs
      have HgW := Lib.hid hgW
      clear ht hfew hs hn hl hc hf hu hwee hgW
      go_enter Tryd.func6, Tryd.ntmps6
      go_wp2_with (first
        | (go_at_call 8; (try rw [hW]); refine HA.out.mono ?_; rintro e w1 ⟨rfl, hb⟩; have HBc := Lib.hid hb; (try rw [hg]); have s0 := HCs.out _ hb; clear hb)
        | (go_at_call 9; (with_reducible refine (HF.out _ HBc.out).mono ?_); rintro e w2 ⟨rfl, hb⟩; have HBc := Lib.hid (bn12 HBc.out hb); clear s0; have s0 := HCs.out _ HBc.out; have hlt := Nat.lt_of_lt_of_le HgW.out HBc.out.size; have HX := Lib.hid (two_blk12 w2 (.cells #[.string u.scheme, .string u.user, .string u.pass, .int .i64 u.kind, .string u.name, .int .u32 (u.v4 : Int), .int .u16 (u.a0 : Int), .int .u16 (u.a1 : Int), .int .u16 (u.a2 : Int), .int .u16 (u.a3 : Int), .int .u16 (u.a4 : Int), .int .u16 (u.a5 : Int), .int .u16 (u.a6 : Int), .int .u16 (u.a7 : Int), .int .i64 u.port, .bool u.opaq, .slice A n c, .bool u.hasQ, .string u.query, .bool true, .string f] 29) (.cells #[.string u.scheme, .string u.user, .string u.pass, .int .i64 u.kind, .string u.name, .int .u32 (u.v4 : Int), .int .u16 (u.a0 : Int), .int .u16 (u.a1 : Int), .int .u16 (u.a2 : Int), .int .u16 (u.a3 : Int), .int .u16 (u.a4 : Int), .int .u16 (u.a5 : Int), .int .u16 (u.a6 : Int), .int .u16 (u.a7 : Int), .int .i64 u.port, .bool u.opaq, .slice A n c, .bool u.hasQ, .string u.query, .bool false, .string u.frag] 29)); have HB2 := Lib.hid (Below.refl (((w2.alloc (.cells #[.string u.scheme, .string u.user, .string u.pass, .int .i64 u.kind, .string u.name, .int .u32 (u.v4 : Int), .int .u16 (u.a0 : Int), .int .u16 (u.a1 : Int), .int .u16 (u.a2 : Int), .int .u16 (u.a3 : Int), .int .u16 (u.a4 : Int), .int .u16 (u.a5 : Int), .int .u16 (u.a6 : Int), .int .u16 (u.a7 : Int), .int .i64 u.port, .bool u.opaq, .slice A n c, .bool u.hasQ, .string u.query, .bool true, .string f] 29)).alloc (.cells #[.string u.scheme, .string u.user, .string u.pass, .int .i64 u.kind, .string u.name, .int .u32 (u.v4 : Int), .int .u16 (u.a0 : Int), .int .u16 (u.a1 : Int), .int .u16 (u.a2 : Int), .int .u16 (u.a3 : Int), .int .u16 (u.a4 : Int), .int .u16 (u.a5 : Int), .int .u16 (u.a6 : Int), .int .u16 (u.a7 : Int), .int .i64 u.port, .bool u.opaq, .slice A n c, .bool u.hasQ, .string u.query, .bool false, .string u.frag] 29))).heap.size ((w2.alloc (.cells #[.string u.scheme, .string u.user, .string u.pass, .int .i64 u.kind, .string u.name, .int .u32 (u.v4 : Int), .int .u16 (u.a0 : Int), .int .u16 (u.a1 : Int), .int .u16 (u.a2 : Int), .int .u16 (u.a3 : Int), .int .u16 (u.a4 : Int), .int .u16 (u.a5 : Int), .int .u16 (u.a6 : Int), .int .u16 (u.a7 : Int), .int .i64 u.port, .bool u.opaq, .slice A n c, .bool u.hasQ, .string u.query, .bool true, .string f] 29)).alloc (.cells #[.string u.scheme, .string u.user, .string u.pass, .int .i64 u.kind, .string u.name, .int .u32 (u.v4 : Int), .int .u16 (u.a0 : Int), .int .u16 (u.a1 : Int), .int .u16 (u.a2 : Int), .int .u16 (u.a3 : Int), .int .u16 (u.a4 : Int), .int .u16 (u.a5 : Int), .int .u16 (u.a6 : Int), .int .u16 (u.a7 : Int), .int .i64 u.port, .bool u.opaq, .slice A n c, .bool u.hasQ, .string u.query, .bool false, .string u.frag] 29))); have HB3 := Lib.hid (bn12 (bel12 w2 (.cells #[.string u.scheme, .string u.user, .string u.pass, .int .i64 u.kind, .string u.name, .int .u32 (u.v4 : Int), .int .u16 (u.a0 : Int), .int .u16 (u.a1 : Int), .int .u16 (u.a2 : Int), .int .u16 (u.a3 : Int), .int .u16 (u.a4 : Int), .int .u16 (u.a5 : Int), .int .u16 (u.a6 : Int), .int .u16 (u.a7 : Int), .int .i64 u.port, .bool u.opaq, .slice A n c, .bool u.hasQ, .string u.query, .bool true, .string f] 29)) (bel12 _ (.cells #[.string u.scheme, .string u.user, .string u.pass, .int .i64 u.kind, .string u.name, .int .u32 (u.v4 : Int), .int .u16 (u.a0 : Int), .int .u16 (u.a1 : Int), .int .u16 (u.a2 : Int), .int .u16 (u.a3 : Int), .int .u16 (u.a4 : Int), .int .u16 (u.a5 : Int), .int .u16 (u.a6 : Int), .int .u16 (u.a7 : Int), .int .i64 u.port, .bool u.opaq, .slice A n c, .bool u.hasQ, .string u.query, .bool false, .string u.frag] 29))); clear hb))
      refine (H1.out _ (bn12 HW.out (bn12 HBc.out (bn12 HB3.out HB2.out))) (HAt.out _ (bn12 HBc.out (bn12 HB3.out HB2.out)))).mono ?_
      rintro e w3 ⟨rfl, hb⟩; have HB2 := Lib.hid (bn12 HB2.out hb); obtain ⟨q0, q1⟩ := HX.out _ HB2.out; clear hb
      go_wp2_with fail
      refine (H2.out _ (bn12 HW.out (bn12 HBc.out (bn12 HB3.out HB2.out))) (HA1.out _ (bn12 HBc.out (bn12 HB3.out HB2.out)))).mono ?_
      rintro e w4 ⟨rfl, hb⟩; have HB2 := Lib.hid (bn12 HB2.out hb); clear q0 q1; obtain ⟨q0, q1⟩ := HX.out _ HB2.out; clear hb
      go_wp2_with fail
      refine (H3.out _ (bn12 HW.out (bn12 HBc.out (bn12 HB3.out HB2.out))) (HA1.out _ (bn12 HBc.out (bn12 HB3.out HB2.out)))).mono ?_
      rintro e w5 ⟨rfl, hb⟩; have HB2 := Lib.hid (bn12 HB2.out hb); clear q0 q1; obtain ⟨q0, q1⟩ := HX.out _ HB2.out; clear hb
      go_wp2_with fail
      refine (H4.out _ (bn12 HW.out (bn12 HBc.out (bn12 HB3.out HB2.out))) (HA2.out _ (bn12 HBc.out (bn12 HB3.out HB2.out)))).mono ?_
      rintro e w6 ⟨rfl, hb⟩; have HB2 := Lib.hid (bn12 HB2.out hb); clear q0 q1; clear hb
      go_wp2
      go_ret
      exact ⟨by simp, bn12 HW.out (bn12 HBc.out (bn12 HB3.out HB2.out))⟩
    · have h100' : 100 < f.size := by omega
      rw [hg] at HCs
      clear hs hn hl hc hf hu
      go_enter Tryd.func6, Tryd.ntmps6
      go_wp2_with (first
        | (go_at_call 8; (try rw [hW]); refine HA.out.mono ?_; rintro e w1 ⟨rfl, hb⟩; have HBc := Lib.hid hb; (try rw [hg]); have s0 := HCs.out _ hb; clear hb)
        | (go_at_call 9; (with_reducible refine (HF.out _ HBc.out).mono ?_); rintro e w2 ⟨rfl, hb⟩; have HBc := Lib.hid (bn12 HBc.out hb); clear hb))
      go_ret
      exact ⟨rfl, bn12 HW.out HBc.out⟩
end Go.Proofs.YtliklhldlofnjaaDoor

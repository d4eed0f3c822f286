/-
  In this text, one behind the other: RecGText.
-/
import Derived.ArgAppend
import Derived.BigQuiet
import Derived.Deep.AppendLies
import Derived.Deep.Light
import Derived.Deep.LoopGhost
import Derived.Deep.QuietTactic
import Derived.Deep.RegionHeld3
import Derived.Deep.RegionWith
import Derived.Deep.WholeRow
import Derived.IntWalk
import Derived.LaidEql
import Derived.Laws.AppendOwnNone
import Derived.Laws.Bits64b
import Derived.Laws.BitsAllLaws
import Derived.Laws.BitsLemmas
import Derived.Laws.Cover4
import Derived.Laws.IdiomStrings
import Derived.Laws.Rows
import Derived.Laws.Tables
import Derived.Lib.Bytealg
import Derived.Lib.Hide
import Derived.Lib.IndexBytes
import Derived.Lib.IndexMore
import Derived.Lib.Join
import Derived.Lib.ParseIntB
import Derived.Lib.SliceRun
import Derived.Maps.AppendAt
import Derived.RowKitTokens
import Derived.Shelf.Spec.TrailingZeros
import Derived.Shelf.Strconv.Itoa3
import Derived.Shelf.Strings.Builder1
import Derived.Shelf.Strings.OnBuilder
import Derived.Stop.Asserts
import Derived.WalkKit
import Derived.WalkLawsBesides
import Derived.WalkMore
import Derived.WalkSpells
import Derived.Test.YtliklhldlofnjaaDoorRows
import Derived.Test.YtliklhldlofnjaaDoorG24
import Derived.Test.YtliklhldlofnjaaDoorG28
/-
  The program's Text of layer 12, by its contract (written by mkrecg.py).
-/
namespace Go.Proofs.YtliklhldlofnjaaDoor
open Go.RowKit
attribute [local go_sem ↓] foldL12 foldS12
attribute [local go_sem] loadU_run viaRow_cells storeU_run viaStore_cells setRow_here12 heap_here12 heap_old12 heap_put12 put12_cells heap_other12 blk_drew12

theorem tcells12 {w : World} (x0 x1 x2 x3 x4 x5 x6 x7 x8 x9 x10 x11 x12 x13 x14 x15 x16 x17 x18 x19 x20 : Value) : ∀ wx, Below (w.alloc (.cells #[x0, x1, x2, x3, x4, x5, x6, x7, x8, x9, x10, x11, x12, x13, x14, x15, x16, x17, x18, x19, x20] 29)).heap.size (w.alloc (.cells #[x0, x1, x2, x3, x4, x5, x6, x7, x8, x9, x10, x11, x12, x13, x14, x15, x16, x17, x18, x19, x20] 29)) wx → blk12 wx w.heap.size = some (.cells #[x0, x1, x2, x3, x4, x5, x6, x7, x8, x9, x10, x11, x12, x13, x14, x15, x16, x17, x18, x19, x20] 29 (0, 0)) ∧ wx.cell? ⟨w.heap.size, 0, none⟩ = some x0 ∧ wx.cell? ⟨w.heap.size, 17, none⟩ = some x17 ∧ wx.cell? ⟨w.heap.size, 18, none⟩ = some x18 ∧ wx.cell? ⟨w.heap.size, 19, none⟩ = some x19 ∧ wx.cell? ⟨w.heap.size, 20, none⟩ = some x20 := by
  intro wx hb
  have h : wx.heap[w.heap.size]? = some (.cells #[x0, x1, x2, x3, x4, x5, x6, x7, x8, x9, x10, x11, x12, x13, x14, x15, x16, x17, x18, x19, x20] 29 (0, 0)) := (hb.block w.heap.size (by simp)).trans (heap_alloc_new w _)
  refine ⟨h, ?_, ?_, ?_, ?_, ?_⟩
  all_goals simp [World.cell?, h]
theorem keep12 {wx : World} {g : Nat} {v : Value} {o : Obj} (o2 : Obj) (h0 : wx.cell? ⟨g, 0, none⟩ = some v) (hb : blk12 wx g = some o) : (wx.alloc o2).cell? ⟨g, 0, none⟩ = some v ∧ blk12 (wx.alloc o2) g = some o := by
  have hlt : g < wx.heap.size := (Array.getElem?_eq_some_iff.1 hb).1
  exact ⟨((bel12 wx o2).cell (p := ⟨g, 0, none⟩) hlt).trans h0, (heap_old12 wx o2 g hlt).trans hb⟩
theorem auth12_is {u : Url12} {t : ByteArray} (ht : txt10 (front12 u) = t) (A : Option Addr) (n c : Nat) (w : World) (h : At12 w u A n c) (hpw : Pow w) (h8 : V8 w) :
    Calls Tryd.prog 19 #[.agg #[.string u.scheme, .string u.user, .string u.pass, .int .i64 u.kind, .string u.name, .int .u32 (u.v4 : Int), .int .u16 (u.a0 : Int), .int .u16 (u.a1 : Int), .int .u16 (u.a2 : Int), .int .u16 (u.a3 : Int), .int .u16 (u.a4 : Int), .int .u16 (u.a5 : Int), .int .u16 (u.a6 : Int), .int .u16 (u.a7 : Int), .int .i64 u.port, .bool u.opaq, .slice A n c, .bool u.hasQ, .string u.query, .bool u.hasF, .string u.frag]] w fun e w' => e = .returned (.string t) ∧ Below w.heap.size w w' := ht ▸ auth12_any u A n c w h hpw h8
theorem ppath12_is {u : Url12} {t : ByteArray} (ht : txt10 (path12 u) = t) (A : Option Addr) (n c : Nat) (w : World) (h : At12 w u A n c) :
    Calls Tryd.prog 12 #[.agg #[.string u.scheme, .string u.user, .string u.pass, .int .i64 u.kind, .string u.name, .int .u32 (u.v4 : Int), .int .u16 (u.a0 : Int), .int .u16 (u.a1 : Int), .int .u16 (u.a2 : Int), .int .u16 (u.a3 : Int), .int .u16 (u.a4 : Int), .int .u16 (u.a5 : Int), .int .u16 (u.a6 : Int), .int .u16 (u.a7 : Int), .int .i64 u.port, .bool u.opaq, .slice A n c, .bool u.hasQ, .string u.query, .bool u.hasF, .string u.frag]] w fun e w' => e = .returned (.string t) ∧ Below w.heap.size w w' := ht ▸ path12_pany u A n c h.len w h.segs h.wee
theorem front12_len {u : Url12} (h : Wee12 u) : (front12 u).length ≤ 1000 := by
  have h1 := h.user; have h2 := h.pass
  have l1 := len10 u.user; have l2 := len10 u.pass
  have h3 : (textK u.kind u.name.data.toList u.v4 u.v6).length ≤ 200 := textK_len (by have := h.name; simpa using this) h.nums.v4 rfl h.nums.v6
  have h4 : (port12 u).length ≤ 20 := by
    unfold port12
    split
    · have := dcm10_len 18 u.port.toNat (by have := h.nums.p1; omega)
      simp
      omega
    · simp
  have h5 : (cred12 u).length ≤ 500 := by
    unfold cred12
    split
    · simp
    · split <;> simp <;> omega
  unfold front12
  split
  · simp; omega
  · split <;> simp

set_option maxHeartbeats 8000000 in
set_option maxRecDepth 100000 in
theorem text12_tt (u : Url12) (A : Option Addr) (n c : Nat) (w : World) (h : At12 w u A n c) (hpw : Pow w) (h8 : V8 w) (hf : u.hasF = true) :
    Calls Tryd.prog 10 #[.agg #[.string u.scheme, .string u.user, .string u.pass, .int .i64 u.kind, .string u.name, .int .u32 (u.v4 : Int), .int .u16 (u.a0 : Int), .int .u16 (u.a1 : Int), .int .u16 (u.a2 : Int), .int .u16 (u.a3 : Int), .int .u16 (u.a4 : Int), .int .u16 (u.a5 : Int), .int .u16 (u.a6 : Int), .int .u16 (u.a7 : Int), .int .i64 u.port, .bool u.opaq, .slice A n c, .bool u.hasQ, .string u.query, .bool u.hasF, .string u.frag], .bool true] w (Txt12 (text12 u true) w) := by
  obtain ⟨ta, hta⟩ : ∃ t, txt10 (front12 u) = t := ⟨_, rfl⟩
  obtain ⟨tp, htp⟩ : ∃ t, txt10 (path12 u) = t := ⟨_, rfl⟩
  obtain ⟨tq, htq⟩ : ∃ t, txt10 (if u.hasQ then (⟨#[63]⟩ : ByteArray).data.toList ++ u.query.data.toList else []) = t := ⟨_, rfl⟩
  obtain ⟨tf, htf⟩ : ∃ t, txt10 (if false then (⟨#[35]⟩ : ByteArray).data.toList ++ u.frag.data.toList else []) = t := ⟨_, rfl⟩
  obtain ⟨R, hR⟩ : ∃ R, txt10 (u.scheme.data.toList ++ ((⟨#[58]⟩ : ByteArray).data.toList ++ (ta.data.toList ++ (tp.data.toList ++ (tq.data.toList ++ tf.data.toList))))) = R := ⟨_, rfl⟩
  have hF : txt10 (text12 u true) = R := by
    rw [← hR]
    refine congrArg txt10 ?_
    unfold text12 query12 frag12
    rw [← hta, ← htp, ← htq, ← htf, hf]
    cases u.hasQ <;> simp [txt10_list]
  have hw := h.wee
  have z1 := hw.scheme; have z2 := hw.query; have z3 := hw.frag
  have za : ta.size ≤ 1000 := by rw [← hta, txt10_size]; exact front12_len hw
  have zp : tp.size ≤ 60000 := by rw [← htp, txt10_size]; exact path12_len hw
  have zq : tq.size ≤ 201 := by rw [← htq, txt10_size]; split <;> simp; omega
  have zf : tf.size ≤ 201 := by rw [← htf, txt10_size]; simp
  have q1 : (⟨#[58]⟩ : ByteArray).size = 1 := rfl
  have q2 : (⟨#[63]⟩ : ByteArray).size = 1 := rfl
  have q3 : (⟨#[35]⟩ : ByteArray).size = 1 := rfl
  have HQ := Lib.hid (fun (W : World) (p : Nat) (hp : p = W.heap.size) => given_two u.hasQ htq (by omega) 9 hp)
  have HG := Lib.hid (fun (W : World) (p : Nat) (hp : p = W.heap.size) => given_two false htf (by omega) 9 hp)
  have HJ := Lib.hid (fun (W : World) (p : Nat) (hp : p = W.heap.size) => join_six hR (by omega) 9 hp)
  have HAu := Lib.hid (fun (W : World) (hb : Below w.heap.size w W) => auth12_is hta A n c W (h.below hb) (hpw.below hb) (h8.below hb))
  have HPa := Lib.hid (fun (W : World) (hb : Below w.heap.size w W) => ppath12_is htp A n c W (h.below hb))
  have HCs := Lib.hid (tcells12 (w := w) (.string u.scheme) (.string u.user) (.string u.pass) (.int .i64 u.kind) (.string u.name) (.int .u32 (u.v4 : Int)) (.int .u16 (u.a0 : Int)) (.int .u16 (u.a1 : Int)) (.int .u16 (u.a2 : Int)) (.int .u16 (u.a3 : Int)) (.int .u16 (u.a4 : Int)) (.int .u16 (u.a5 : Int)) (.int .u16 (u.a6 : Int)) (.int .u16 (u.a7 : Int)) (.int .i64 u.port) (.bool u.opaq) (.slice A n c) (.bool u.hasQ) (.string u.query) (.bool u.hasF) (.string u.frag))
  unfold Txt12
  rw [hF]
  rw [hf] at HAu HPa HCs ⊢
  have HX : Hid (Below w.heap.size w (w.alloc (.cells #[.string u.scheme, .string u.user, .string u.pass, .int .i64 u.kind, .string u.name, .int .u32 (u.v4 : Int), .int .u16 (u.a0 : Int), .int .u16 (u.a1 : Int), .int .u16 (u.a2 : Int), .int .u16 (u.a3 : Int), .int .u16 (u.a4 : Int), .int .u16 (u.a5 : Int), .int .u16 (u.a6 : Int), .int .u16 (u.a7 : Int), .int .i64 u.port, .bool u.opaq, .slice A n c, .bool u.hasQ, .string u.query, .bool true, .string u.frag] 29))) := bel12 _ _
  have HBc : Hid (Below (w.alloc (.cells #[.string u.scheme, .string u.user, .string u.pass, .int .i64 u.kind, .string u.name, .int .u32 (u.v4 : Int), .int .u16 (u.a0 : Int), .int .u16 (u.a1 : Int), .int .u16 (u.a2 : Int), .int .u16 (u.a3 : Int), .int .u16 (u.a4 : Int), .int .u16 (u.a5 : Int), .int .u16 (u.a6 : Int), .int .u16 (u.a7 : Int), .int .i64 u.port, .bool u.opaq, .slice A n c, .bool u.hasQ, .string u.query, .bool true, .string u.frag] 29)).heap.size (w.alloc (.cells #[.string u.scheme, .string u.user, .string u.pass, .int .i64 u.kind, .string u.name, .int .u32 (u.v4 : Int), .int .u16 (u.a0 : Int), .int .u16 (u.a1 : Int), .int .u16 (u.a2 : Int), .int .u16 (u.a3 : Int), .int .u16 (u.a4 : Int), .int .u16 (u.a5 : Int), .int .u16 (u.a6 : Int), .int .u16 (u.a7 : Int), .int .i64 u.port, .bool u.opaq, .slice A n c, .bool u.hasQ, .string u.query, .bool true, .string u.frag] 29)) (w.alloc (.cells #[.string u.scheme, .string u.user, .string u.pass, .int .i64 u.kind, .string u.name, .int .u32 (u.v4 : Int), .int .u16 (u.a0 : Int), .int .u16 (u.a1 : Int), .int .u16 (u.a2 : Int), .int .u16 (u.a3 : Int), .int .u16 (u.a4 : Int), .int .u16 (u.a5 : Int), .int .u16 (u.a6 : Int), .int .u16 (u.a7 : Int), .int .i64 u.port, .bool u.opaq, .slice A n c, .bool u.hasQ, .string u.query, .bool true, .string u.frag] 29))) := Below.refl _ _
  obtain ⟨sb, s0, s17, s18, s19, s20⟩ := HCs.out _ HBc.out
  clear hta htp htq htf hR hF hw z1 z2 z3 za zp zq zf q1 q2 q3 h hpw h8 hf
  go_enter Tryd.func10, Tryd.ntmps10
  go_wp2_with (first
    | (go_at_call 17; (with_reducible refine (HQ.out _ _ (by first | rfl | simp)).mono ?_); rintro e w1 ⟨rfl, hb⟩; have HBc := Lib.hid (bn12 HBc.out hb); clear sb s0 s17 s18 s19 s20; (obtain ⟨sb, s0, s17, s18, s19, s20⟩ := HCs.out _ HBc.out); clear hb)
    | (go_at_call 17; (with_reducible refine (HG.out _ _ (by first | rfl | simp)).mono ?_); rintro e w2 ⟨rfl, hb⟩; have HBc := Lib.hid (bn12 HBc.out hb); clear sb s0 s17 s18 s19 s20; (obtain ⟨sb, s0, s17, s18, s19, s20⟩ := HCs.out _ HBc.out); clear hb))
  go_region_held3 (fun wx => wx.cell? ⟨w.heap.size, 0, none⟩ = some (.string u.scheme) ∧ blk12 wx w.heap.size = some (.cells #[.string u.scheme, .string u.user, .string u.pass, .int .i64 u.kind, .string u.name, .int .u32 (u.v4 : Int), .int .u16 (u.a0 : Int), .int .u16 (u.a1 : Int), .int .u16 (u.a2 : Int), .int .u16 (u.a3 : Int), .int .u16 (u.a4 : Int), .int .u16 (u.a5 : Int), .int .u16 (u.a6 : Int), .int .u16 (u.a7 : Int), .int .i64 u.port, .bool u.opaq, .slice A n c, .bool u.hasQ, .string u.query, .bool true, .string u.frag] 29 (0, 0))) (first | exact ⟨s0, sb⟩ | exact ⟨r3_0, r3_b⟩ | exact ⟨r4_0, r4_b⟩ | exact ⟨r5_0, r5_b⟩ | exact keep12 _ r3_0 r3_b | exact keep12 _ r4_0 r4_b | go_keep) (first
    | (go_at_call 19; (with_reducible refine (HAu.out _ (bn12 HX.out (by first | exact HBc.out | exact HBc.out.drew))).mono ?_); rintro e w3 ⟨rfl, hb⟩; (first | have HBc := Lib.hid (bn12 HBc.out hb) | have HBc := Lib.hid (bng12 HBc.out hb)); (obtain ⟨r3_b, r3_0, r3_17, r3_18, r3_19, r3_20⟩ := HCs.out _ HBc.out); clear hb)
    | (go_at_call 12; (with_reducible refine (HPa.out _ (bn12 HX.out (by first | exact HBc.out | exact HBc.out.drew))).mono ?_); rintro e w4 ⟨rfl, hb⟩; (first | have HBc := Lib.hid (bn12 HBc.out hb) | have HBc := Lib.hid (bng12 HBc.out hb)); (obtain ⟨r4_b, r4_0, r4_17, r4_18, r4_19, r4_20⟩ := HCs.out _ HBc.out); clear hb)
    | (go_at_call 18; (with_reducible refine (HJ.out _ _ (by first | rfl | simp)).mono ?_); rintro e w5 ⟨rfl, hb⟩; (first | have HBc := Lib.hid (bn12 HBc.out hb) | have HBc := Lib.hid (bng12 HBc.out hb)); (obtain ⟨r5_b, r5_0, r5_17, r5_18, r5_19, r5_20⟩ := HCs.out _ HBc.out); clear hb))
  all_goals
    go_wp2
    go_ret
    exact ⟨rfl, bn12 HX.out HBc.out⟩

set_option maxHeartbeats 8000000 in
set_option maxRecDepth 100000 in
theorem text12_tf (u : Url12) (A : Option Addr) (n c : Nat) (w : World) (h : At12 w u A n c) (hpw : Pow w) (h8 : V8 w) (hf : u.hasF = true) :
    Calls Tryd.prog 10 #[.agg #[.string u.scheme, .string u.user, .string u.pass, .int .i64 u.kind, .string u.name, .int .u32 (u.v4 : Int), .int .u16 (u.a0 : Int), .int .u16 (u.a1 : Int), .int .u16 (u.a2 : Int), .int .u16 (u.a3 : Int), .int .u16 (u.a4 : Int), .int .u16 (u.a5 : Int), .int .u16 (u.a6 : Int), .int .u16 (u.a7 : Int), .int .i64 u.port, .bool u.opaq, .slice A n c, .bool u.hasQ, .string u.query, .bool u.hasF, .string u.frag], .bool false] w (Txt12 (text12 u false) w) := by
  obtain ⟨ta, hta⟩ : ∃ t, txt10 (front12 u) = t := ⟨_, rfl⟩
  obtain ⟨tp, htp⟩ : ∃ t, txt10 (path12 u) = t := ⟨_, rfl⟩
  obtain ⟨tq, htq⟩ : ∃ t, txt10 (if u.hasQ then (⟨#[63]⟩ : ByteArray).data.toList ++ u.query.data.toList else []) = t := ⟨_, rfl⟩
  obtain ⟨tf, htf⟩ : ∃ t, txt10 (if true then (⟨#[35]⟩ : ByteArray).data.toList ++ u.frag.data.toList else []) = t := ⟨_, rfl⟩
  obtain ⟨R, hR⟩ : ∃ R, txt10 (u.scheme.data.toList ++ ((⟨#[58]⟩ : ByteArray).data.toList ++ (ta.data.toList ++ (tp.data.toList ++ (tq.data.toList ++ tf.data.toList))))) = R := ⟨_, rfl⟩
  have hF : txt10 (text12 u false) = R := by
    rw [← hR]
    refine congrArg txt10 ?_
    unfold text12 query12 frag12
    rw [← hta, ← htp, ← htq, ← htf, hf]
    cases u.hasQ <;> simp [txt10_list]
  have hw := h.wee
  have z1 := hw.scheme; have z2 := hw.query; have z3 := hw.frag
  have za : ta.size ≤ 1000 := by rw [← hta, txt10_size]; exact front12_len hw
  have zp : tp.size ≤ 60000 := by rw [← htp, txt10_size]; exact path12_len hw
  have zq : tq.size ≤ 201 := by rw [← htq, txt10_size]; split <;> simp; omega
  have zf : tf.size ≤ 201 := by rw [← htf, txt10_size]; simp; omega
  have q1 : (⟨#[58]⟩ : ByteArray).size = 1 := rfl
  have q2 : (⟨#[63]⟩ : ByteArray).size = 1 := rfl
  have q3 : (⟨#[35]⟩ : ByteArray).size = 1 := rfl
  have HQ := Lib.hid (fun (W : World) (p : Nat) (hp : p = W.heap.size) => given_two u.hasQ htq (by omega) 9 hp)
  have HG := Lib.hid (fun (W : World) (p : Nat) (hp : p = W.heap.size) => given_two true htf (by omega) 9 hp)
  have HJ := Lib.hid (fun (W : World) (p : Nat) (hp : p = W.heap.size) => join_six hR (by omega) 9 hp)
  have HAu := Lib.hid (fun (W : World) (hb : Below w.heap.size w W) => auth12_is hta A n c W (h.below hb) (hpw.below hb) (h8.below hb))
  have HPa := Lib.hid (fun (W : World) (hb : Below w.heap.size w W) => ppath12_is htp A n c W (h.below hb))
  have HCs := Lib.hid (tcells12 (w := w) (.string u.scheme) (.string u.user) (.string u.pass) (.int .i64 u.kind) (.string u.name) (.int .u32 (u.v4 : Int)) (.int .u16 (u.a0 : Int)) (.int .u16 (u.a1 : Int)) (.int .u16 (u.a2 : Int)) (.int .u16 (u.a3 : Int)) (.int .u16 (u.a4 : Int)) (.int .u16 (u.a5 : Int)) (.int .u16 (u.a6 : Int)) (.int .u16 (u.a7 : Int)) (.int .i64 u.port) (.bool u.opaq) (.slice A n c) (.bool u.hasQ) (.string u.query) (.bool u.hasF) (.string u.frag))
  unfold Txt12
  rw [hF]
  rw [hf] at HAu HPa HCs ⊢
  have HX : Hid (Below w.heap.size w (w.alloc (.cells #[.string u.scheme, .string u.user, .string u.pass, .int .i64 u.kind, .string u.name, .int .u32 (u.v4 : Int), .int .u16 (u.a0 : Int), .int .u16 (u.a1 : Int), .int .u16 (u.a2 : Int), .int .u16 (u.a3 : Int), .int .u16 (u.a4 : Int), .int .u16 (u.a5 : Int), .int .u16 (u.a6 : Int), .int .u16 (u.a7 : Int), .int .i64 u.port, .bool u.opaq, .slice A n c, .bool u.hasQ, .string u.query, .bool true, .string u.frag] 29))) := bel12 _ _
  have HBc : Hid (Below (w.alloc (.cells #[.string u.scheme, .string u.user, .string u.pass, .int .i64 u.kind, .string u.name, .int .u32 (u.v4 : Int), .int .u16 (u.a0 : Int), .int .u16 (u.a1 : Int), .int .u16 (u.a2 : Int), .int .u16 (u.a3 : Int), .int .u16 (u.a4 : Int), .int .u16 (u.a5 : Int), .int .u16 (u.a6 : Int), .int .u16 (u.a7 : Int), .int .i64 u.port, .bool u.opaq, .slice A n c, .bool u.hasQ, .string u.query, .bool true, .string u.frag] 29)).heap.size (w.alloc (.cells #[.string u.scheme, .string u.user, .string u.pass, .int .i64 u.kind, .string u.name, .int .u32 (u.v4 : Int), .int .u16 (u.a0 : Int), .int .u16 (u.a1 : Int), .int .u16 (u.a2 : Int), .int .u16 (u.a3 : Int), .int .u16 (u.a4 : Int), .int .u16 (u.a5 : Int), .int .u16 (u.a6 : Int), .int .u16 (u.a7 : Int), .int .i64 u.port, .bool u.opaq, .slice A n c, .bool u.hasQ, .string u.query, .bool true, .string u.frag] 29)) (w.alloc (.cells #[.string u.scheme, .string u.user, .string u.pass, .int .i64 u.kind, .string u.name, .int .u32 (u.v4 : Int), .int .u16 (u.a0 : Int), .int .u16 (u.a1 : Int), .int .u16 (u.a2 : Int), .int .u16 (u.a3 : Int), .int .u16 (u.a4 : Int), .int .u16 (u.a5 : Int), .int .u16 (u.a6 : Int), .int .u16 (u.a7 : Int), .int .i64 u.port, .bool u.opaq, .slice A n c, .bool u.hasQ, .string u.query, .bool true, .string u.frag] 29))) := Below.refl _ _
  obtain ⟨sb, s0, s17, s18, s19, s20⟩ := HCs.out _ HBc.out
  clear hta htp htq htf hR hF hw z1 z2 z3 za zp zq zf q1 q2 q3 h hpw h8 hf
  go_enter Tryd.func10, Tryd.ntmps10
  go_wp2_with (first
    | (go_at_call 17; (with_reducible refine (HQ.out _ _ (by first | rfl | simp)).mono ?_); rintro e w1 ⟨rfl, hb⟩; have HBc := Lib.hid (bn12 HBc.out hb); clear sb s0 s17 s18 s19 s20; (obtain ⟨sb, s0, s17, s18, s19, s20⟩ := HCs.out _ HBc.out); clear hb)
    | (go_at_call 17; (with_reducible refine (HG.out _ _ (by first | rfl | simp)).mono ?_); rintro e w2 ⟨rfl, hb⟩; have HBc := Lib.hid (bn12 HBc.out hb); clear sb s0 s17 s18 s19 s20; (obtain ⟨sb, s0, s17, s18, s19, s20⟩ := HCs.out _ HBc.out); clear hb))
  go_region_held3 (fun wx => wx.cell? ⟨w.heap.size, 0, none⟩ = some (.string u.scheme) ∧ blk12 wx w.heap.size = some (.cells #[.string u.scheme, .string u.user, .string u.pass, .int .i64 u.kind, .string u.name, .int .u32 (u.v4 : Int), .int .u16 (u.a0 : Int), .int .u16 (u.a1 : Int), .int .u16 (u.a2 : Int), .int .u16 (u.a3 : Int), .int .u16 (u.a4 : Int), .int .u16 (u.a5 : Int), .int .u16 (u.a6 : Int), .int .u16 (u.a7 : Int), .int .i64 u.port, .bool u.opaq, .slice A n c, .bool u.hasQ, .string u.query, .bool true, .string u.frag] 29 (0, 0))) (first | exact ⟨s0, sb⟩ | exact ⟨r3_0, r3_b⟩ | exact ⟨r4_0, r4_b⟩ | exact ⟨r5_0, r5_b⟩ | exact keep12 _ r3_0 r3_b | exact keep12 _ r4_0 r4_b | go_keep) (first
    | (go_at_call 19; (with_reducible refine (HAu.out _ (bn12 HX.out (by first | exact HBc.out | exact HBc.out.drew))).mono ?_); rintro e w3 ⟨rfl, hb⟩; (first | have HBc := Lib.hid (bn12 HBc.out hb) | have HBc := Lib.hid (bng12 HBc.out hb)); (obtain ⟨r3_b, r3_0, r3_17, r3_18, r3_19, r3_20⟩ := HCs.out _ HBc.out); clear hb)
    | (go_at_call 12; (with_reducible refine (HPa.out _ (bn12 HX.out (by first | exact HBc.out | exact HBc.out.drew))).mono ?_); rintro e w4 ⟨rfl, hb⟩; (first | have HBc := Lib.hid (bn12 HBc.out hb) | have HBc := Lib.hid (bng12 HBc.out hb)); (obtain ⟨r4_b, r4_0, r4_17, r4_18, r4_19, r4_20⟩ := HCs.out _ HBc.out); clear hb)
    | (go_at_call 18; (with_reducible refine (HJ.out _ _ (by first | rfl | simp)).mono ?_); rintro e w5 ⟨rfl, hb⟩; (first | have HBc := Lib.hid (bn12 HBc.out hb) | have HBc := Lib.hid (bng12 HBc.out hb)); (obtain ⟨r5_b, r5_0, r5_17, r5_18, r5_19, r5_20⟩ := HCs.out _ HBc.out); clear hb))
  all_goals
    go_wp2
    go_ret
    exact ⟨rfl, bn12 HX.out HBc.out⟩

set_option maxHeartbeats 8000000 in
set_option maxRecDepth 100000 in
theorem text12_ft (u : Url12) (A : Option Addr) (n c : Nat) (w : World) (h : At12 w u A n c) (hpw : Pow w) (h8 : V8 w) (hf : u.hasF = false) :
    Calls Tryd.prog 10 #[.agg #[.string u.scheme, .string u.user, .string u.pass, .int .i64 u.kind, .string u.name, .int .u32 (u.v4 : Int), .int .u16 (u.a0 : Int), .int .u16 (u.a1 : Int), .int .u16 (u.a2 : Int), .int .u16 (u.a3 : Int), .int .u16 (u.a4 : Int), .int .u16 (u.a5 : Int), .int .u16 (u.a6 : Int), .int .u16 (u.a7 : Int), .int .i64 u.port, .bool u.opaq, .slice A n c, .bool u.hasQ, .string u.query, .bool u.hasF, .string u.frag], .bool true] w (Txt12 (text12 u true) w) := by
  obtain ⟨ta, hta⟩ : ∃ t, txt10 (front12 u) = t := ⟨_, rfl⟩
  obtain ⟨tp, htp⟩ : ∃ t, txt10 (path12 u) = t := ⟨_, rfl⟩
  obtain ⟨tq, htq⟩ : ∃ t, txt10 (if u.hasQ then (⟨#[63]⟩ : ByteArray).data.toList ++ u.query.data.toList else []) = t := ⟨_, rfl⟩
  obtain ⟨tf, htf⟩ : ∃ t, txt10 (if false then (⟨#[35]⟩ : ByteArray).data.toList ++ u.frag.data.toList else []) = t := ⟨_, rfl⟩
  obtain ⟨R, hR⟩ : ∃ R, txt10 (u.scheme.data.toList ++ ((⟨#[58]⟩ : ByteArray).data.toList ++ (ta.data.toList ++ (tp.data.toList ++ (tq.data.toList ++ tf.data.toList))))) = R := ⟨_, rfl⟩
  have hF : txt10 (text12 u true) = R := by
    rw [← hR]
    refine congrArg txt10 ?_
    unfold text12 query12 frag12
    rw [← hta, ← htp, ← htq, ← htf, hf]
    cases u.hasQ <;> simp [txt10_list]
  have hw := h.wee
  have z1 := hw.scheme; have z2 := hw.query; have z3 := hw.frag
  have za : ta.size ≤ 1000 := by rw [← hta, txt10_size]; exact front12_len hw
  have zp : tp.size ≤ 60000 := by rw [← htp, txt10_size]; exact path12_len hw
  have zq : tq.size ≤ 201 := by rw [← htq, txt10_size]; split <;> simp; omega
  have zf : tf.size ≤ 201 := by rw [← htf, txt10_size]; simp
  have q1 : (⟨#[58]⟩ : ByteArray).size = 1 := rfl
  have q2 : (⟨#[63]⟩ : ByteArray).size = 1 := rfl
  have q3 : (⟨#[35]⟩ : ByteArray).size = 1 := rfl
  have HQ := Lib.hid (fun (W : World) (p : Nat) (hp : p = W.heap.size) => given_two u.hasQ htq (by omega) 9 hp)
  have HG := Lib.hid (fun (W : World) (p : Nat) (hp : p = W.heap.size) => given_two false htf (by omega) 9 hp)
  have HJ := Lib.hid (fun (W : World) (p : Nat) (hp : p = W.heap.size) => join_six hR (by omega) 9 hp)
  have HAu := Lib.hid (fun (W : World) (hb : Below w.heap.size w W) => auth12_is hta A n c W (h.below hb) (hpw.below hb) (h8.below hb))
  have HPa := Lib.hid (fun (W : World) (hb : Below w.heap.size w W) => ppath12_is htp A n c W (h.below hb))
  have HCs := Lib.hid (tcells12 (w := w) (.string u.scheme) (.string u.user) (.string u.pass) (.int .i64 u.kind) (.string u.name) (.int .u32 (u.v4 : Int)) (.int .u16 (u.a0 : Int)) (.int .u16 (u.a1 : Int)) (.int .u16 (u.a2 : Int)) (.int .u16 (u.a3 : Int)) (.int .u16 (u.a4 : Int)) (.int .u16 (u.a5 : Int)) (.int .u16 (u.a6 : Int)) (.int .u16 (u.a7 : Int)) (.int .i64 u.port) (.bool u.opaq) (.slice A n c) (.bool u.hasQ) (.string u.query) (.bool u.hasF) (.string u.frag))
  unfold Txt12
  rw [hF]
  rw [hf] at HAu HPa HCs ⊢
  have HX : Hid (Below w.heap.size w (w.alloc (.cells #[.string u.scheme, .string u.user, .string u.pass, .int .i64 u.kind, .string u.name, .int .u32 (u.v4 : Int), .int .u16 (u.a0 : Int), .int .u16 (u.a1 : Int), .int .u16 (u.a2 : Int), .int .u16 (u.a3 : Int), .int .u16 (u.a4 : Int), .int .u16 (u.a5 : Int), .int .u16 (u.a6 : Int), .int .u16 (u.a7 : Int), .int .i64 u.port, .bool u.opaq, .slice A n c, .bool u.hasQ, .string u.query, .bool false, .string u.frag] 29))) := bel12 _ _
  have HBc : Hid (Below (w.alloc (.cells #[.string u.scheme, .string u.user, .string u.pass, .int .i64 u.kind, .string u.name, .int .u32 (u.v4 : Int), .int .u16 (u.a0 : Int), .int .u16 (u.a1 : Int), .int .u16 (u.a2 : Int), .int .u16 (u.a3 : Int), .int .u16 (u.a4 : Int), .int .u16 (u.a5 : Int), .int .u16 (u.a6 : Int), .int .u16 (u.a7 : Int), .int .i64 u.port, .bool u.opaq, .slice A n c, .bool u.hasQ, .string u.query, .bool false, .string u.frag] 29)).heap.size (w.alloc (.cells #[.string u.scheme, .string u.user, .string u.pass, .int .i64 u.kind, .string u.name, .int .u32 (u.v4 : Int), .int .u16 (u.a0 : Int), .int .u16 (u.a1 : Int), .int .u16 (u.a2 : Int), .int .u16 (u.a3 : Int), .int .u16 (u.a4 : Int), .int .u16 (u.a5 : Int), .int .u16 (u.a6 : Int), .int .u16 (u.a7 : Int), .int .i64 u.port, .bool u.opaq, .slice A n c, .bool u.hasQ, .string u.query, .bool false, .string u.frag] 29)) (w.alloc (.cells #[.string u.scheme, .string u.user, .string u.pass, .int .i64 u.kind, .string u.name, .int .u32 (u.v4 : Int), .int .u16 (u.a0 : Int), .int .u16 (u.a1 : Int), .int .u16 (u.a2 : Int), .int .u16 (u.a3 : Int), .int .u16 (u.a4 : Int), .int .u16 (u.a5 : Int), .int .u16 (u.a6 : Int), .int .u16 (u.a7 : Int), .int .i64 u.port, .bool u.opaq, .slice A n c, .bool u.hasQ, .string u.query, .bool false, .string u.frag] 29))) := Below.refl _ _
  obtain ⟨sb, s0, s17, s18, s19, s20⟩ := HCs.out _ HBc.out
  clear hta htp htq htf hR hF hw z1 z2 z3 za zp zq zf q1 q2 q3 h hpw h8 hf
  go_enter Tryd.func10, Tryd.ntmps10
  go_wp2_with (first
    | (go_at_call 17; (with_reducible refine (HQ.out _ _ (by first | rfl | simp)).mono ?_); rintro e w1 ⟨rfl, hb⟩; have HBc := Lib.hid (bn12 HBc.out hb); clear sb s0 s17 s18 s19 s20; (obtain ⟨sb, s0, s17, s18, s19, s20⟩ := HCs.out _ HBc.out); clear hb)
    | (go_at_call 17; (with_reducible refine (HG.out _ _ (by first | rfl | simp)).mono ?_); rintro e w2 ⟨rfl, hb⟩; have HBc := Lib.hid (bn12 HBc.out hb); clear sb s0 s17 s18 s19 s20; (obtain ⟨sb, s0, s17, s18, s19, s20⟩ := HCs.out _ HBc.out); clear hb))
  go_region_held3 (fun wx => wx.cell? ⟨w.heap.size, 0, none⟩ = some (.string u.scheme) ∧ blk12 wx w.heap.size = some (.cells #[.string u.scheme, .string u.user, .string u.pass, .int .i64 u.kind, .string u.name, .int .u32 (u.v4 : Int), .int .u16 (u.a0 : Int), .int .u16 (u.a1 : Int), .int .u16 (u.a2 : Int), .int .u16 (u.a3 : Int), .int .u16 (u.a4 : Int), .int .u16 (u.a5 : Int), .int .u16 (u.a6 : Int), .int .u16 (u.a7 : Int), .int .i64 u.port, .bool u.opaq, .slice A n c, .bool u.hasQ, .string u.query, .bool false, .string u.frag] 29 (0, 0))) (first | exact ⟨s0, sb⟩ | exact ⟨r3_0, r3_b⟩ | exact ⟨r4_0, r4_b⟩ | exact ⟨r5_0, r5_b⟩ | exact keep12 _ r3_0 r3_b | exact keep12 _ r4_0 r4_b | go_keep) (first
    | (go_at_call 19; (with_reducible refine (HAu.out _ (bn12 HX.out (by first | exact HBc.out | exact HBc.out.drew))).mono ?_); rintro e w3 ⟨rfl, hb⟩; (first | have HBc := Lib.hid (bn12 HBc.out hb) | have HBc := Lib.hid (bng12 HBc.out hb)); (obtain ⟨r3_b, r3_0, r3_17, r3_18, r3_19, r3_20⟩ := HCs.out _ HBc.out); clear hb)
    | (go_at_call 12; (with_reducible refine (HPa.out _ (bn12 HX.out (by first | exact HBc.out | exact HBc.out.drew))).mono ?_); rintro e w4 ⟨rfl, hb⟩; (first | have HBc := Lib.hid (bn12 HBc.out hb) | have HBc := Lib.hid (bng12 HBc.out hb)); (obtain ⟨r4_b, r4_0, r4_17, r4_18, r4_19, r4_20⟩ := HCs.out _ HBc.out); clear hb)
    | (go_at_call 18; (with_reducible refine (HJ.out _ _ (by first | rfl | simp)).mono ?_); rintro e w5 ⟨rfl, hb⟩; (first | have HBc := Lib.hid (bn12 HBc.out hb) | have HBc := Lib.hid (bng12 HBc.out hb)); (obtain ⟨r5_b, r5_0, r5_17, r5_18, r5_19, r5_20⟩ := HCs.out _ HBc.out); clear hb))
  all_goals
    go_wp2
    go_ret
    exact ⟨rfl, bn12 HX.out HBc.out⟩

set_option maxHeartbeats 8000000 in
set_option maxRecDepth 100000 in
theorem text12_ff (u : Url12) (A : Option Addr) (n c : Nat) (w : World) (h : At12 w u A n c) (hpw : Pow w) (h8 : V8 w) (hf : u.hasF = false) :
    Calls Tryd.prog 10 #[.agg #[.string u.scheme, .string u.user, .string u.pass, .int .i64 u.kind, .string u.name, .int .u32 (u.v4 : Int), .int .u16 (u.a0 : Int), .int .u16 (u.a1 : Int), .int .u16 (u.a2 : Int), .int .u16 (u.a3 : Int), .int .u16 (u.a4 : Int), .int .u16 (u.a5 : Int), .int .u16 (u.a6 : Int), .int .u16 (u.a7 : Int), .int .i64 u.port, .bool u.opaq, .slice A n c, .bool u.hasQ, .string u.query, .bool u.hasF, .string u.frag], .bool false] w (Txt12 (text12 u false) w) := by
  obtain ⟨ta, hta⟩ : ∃ t, txt10 (front12 u) = t := ⟨_, rfl⟩
  obtain ⟨tp, htp⟩ : ∃ t, txt10 (path12 u) = t := ⟨_, rfl⟩
  obtain ⟨tq, htq⟩ : ∃ t, txt10 (if u.hasQ then (⟨#[63]⟩ : ByteArray).data.toList ++ u.query.data.toList else []) = t := ⟨_, rfl⟩
  obtain ⟨tf, htf⟩ : ∃ t, txt10 (if false then (⟨#[35]⟩ : ByteArray).data.toList ++ u.frag.data.toList else []) = t := ⟨_, rfl⟩
  obtain ⟨R, hR⟩ : ∃ R, txt10 (u.scheme.data.toList ++ ((⟨#[58]⟩ : ByteArray).data.toList ++ (ta.data.toList ++ (tp.data.toList ++ (tq.data.toList ++ tf.data.toList))))) = R := ⟨_, rfl⟩
  have hF : txt10 (text12 u false) = R := by
    rw [← hR]
    refine congrArg txt10 ?_
    unfold text12 query12 frag12
    rw [← hta, ← htp, ← htq, ← htf, hf]
    cases u.hasQ <;> simp [txt10_list]
  have hw := h.wee
  have z1 := hw.scheme; have z2 := hw.query; have z3 := hw.frag
  have za : ta.size ≤ 1000 := by rw [← hta, txt10_size]; exact front12_len hw
  have zp : tp.size ≤ 60000 := by rw [← htp, txt10_size]; exact path12_len hw
  have zq : tq.size ≤ 201 := by rw [← htq, txt10_size]; split <;> simp; omega
  have zf : tf.size ≤ 201 := by rw [← htf, txt10_size]; simp
  have q1 : (⟨#[58]⟩ : ByteArray).size = 1 := rfl
  have q2 : (⟨#[63]⟩ : ByteArray).size = 1 := rfl
  have q3 : (⟨#[35]⟩ : ByteArray).size = 1 := rfl
  have HQ := Lib.hid (fun (W : World) (p : Nat) (hp : p = W.heap.size) => given_two u.hasQ htq (by omega) 9 hp)
  have HG := Lib.hid (fun (W : World) (p : Nat) (hp : p = W.heap.size) => given_two false htf (by omega) 9 hp)
  have HJ := Lib.hid (fun (W : World) (p : Nat) (hp : p = W.heap.size) => join_six hR (by omega) 9 hp)
  have HAu := Lib.hid (fun (W : World) (hb : Below w.heap.size w W) => auth12_is hta A n c W (h.below hb) (hpw.below hb) (h8.below hb))
  have HPa := Lib.hid (fun (W : World) (hb : Below w.heap.size w W) => ppath12_is htp A n c W (h.below hb))
  have HCs := Lib.hid (tcells12 (w := w) (.string u.scheme) (.string u.user) (.string u.pass) (.int .i64 u.kind) (.string u.name) (.int .u32 (u.v4 : Int)) (.int .u16 (u.a0 : Int)) (.int .u16 (u.a1 : Int)) (.int .u16 (u.a2 : Int)) (.int .u16 (u.a3 : Int)) (.int .u16 (u.a4 : Int)) (.int .u16 (u.a5 : Int)) (.int .u16 (u.a6 : Int)) (.int .u16 (u.a7 : Int)) (.int .i64 u.port) (.bool u.opaq) (.slice A n c) (.bool u.hasQ) (.string u.query) (.bool u.hasF) (.string u.frag))
  unfold Txt12
  rw [hF]
  rw [hf] at HAu HPa HCs ⊢
  have HX : Hid (Below w.heap.size w (w.alloc (.cells #[.string u.scheme, .string u.user, .string u.pass, .int .i64 u.kind, .string u.name, .int .u32 (u.v4 : Int), .int .u16 (u.a0 : Int), .int .u16 (u.a1 : Int), .int .u16 (u.a2 : Int), .int .u16 (u.a3 : Int), .int .u16 (u.a4 : Int), .int .u16 (u.a5 : Int), .int .u16 (u.a6 : Int), .int .u16 (u.a7 : Int), .int .i64 u.port, .bool u.opaq, .slice A n c, .bool u.hasQ, .string u.query, .bool false, .string u.frag] 29))) := bel12 _ _
  have HBc : Hid (Below (w.alloc (.cells #[.string u.scheme, .string u.user, .string u.pass, .int .i64 u.kind, .string u.name, .int .u32 (u.v4 : Int), .int .u16 (u.a0 : Int), .int .u16 (u.a1 : Int), .int .u16 (u.a2 : Int), .int .u16 (u.a3 : Int), .int .u16 (u.a4 : Int), .int .u16 (u.a5 : Int), .int .u16 (u.a6 : Int), .int .u16 (u.a7 : Int), .int .i64 u.port, .bool u.opaq, .slice A n c, .bool u.hasQ, .string u.query, .bool false, .string u.frag] 29)).heap.size (w.alloc (.cells #[.string u.scheme, .string u.user, .string u.pass, .int .i64 u.kind, .string u.name, .int .u32 (u.v4 : Int), .int .u16 (u.a0 : Int), .int .u16 (u.a1 : Int), .int .u16 (u.a2 : Int), .int .u16 (u.a3 : Int), .int .u16 (u.a4 : Int), .int .u16 (u.a5 : Int), .int .u16 (u.a6 : Int), .int .u16 (u.a7 : Int), .int .i64 u.port, .bool u.opaq, .slice A n c, .bool u.hasQ, .string u.query, .bool false, .string u.frag] 29)) (w.alloc (.cells #[.string u.scheme, .string u.user, .string u.pass, .int .i64 u.kind, .string u.name, .int .u32 (u.v4 : Int), .int .u16 (u.a0 : Int), .int .u16 (u.a1 : Int), .int .u16 (u.a2 : Int), .int .u16 (u.a3 : Int), .int .u16 (u.a4 : Int), .int .u16 (u.a5 : Int), .int .u16 (u.a6 : Int), .int .u16 (u.a7 : Int), .int .i64 u.port, .bool u.opaq, .slice A n c, .bool u.hasQ, .string u.query, .bool false, .string u.frag] 29))) := Below.refl _ _
  obtain ⟨sb, s0, s17, s18, s19, s20⟩ := HCs.out _ HBc.out
  clear hta htp htq htf hR hF hw z1 z2 z3 za zp zq zf q1 q2 q3 h hpw h8 hf
  go_enter Tryd.func10, Tryd.ntmps10
  go_wp2_with (first
    | (go_at_call 17; (with_reducible refine (HQ.out _ _ (by first | rfl | simp)).mono ?_); rintro e w1 ⟨rfl, hb⟩; have HBc := Lib.hid (bn12 HBc.out hb); clear sb s0 s17 s18 s19 s20; (obtain ⟨sb, s0, s17, s18, s19, s20⟩ := HCs.out _ HBc.out); clear hb)
    | (go_at_call 17; (with_reducible refine (HG.out _ _ (by first | rfl | simp)).mono ?_); rintro e w2 ⟨rfl, hb⟩; have HBc := Lib.hid (bn12 HBc.out hb); clear sb s0 s17 s18 s19 s20; (obtain ⟨sb, s0, s17, s18, s19, s20⟩ := HCs.out _ HBc.out); clear hb))
  go_region_held3 (fun wx => wx.cell? ⟨w.heap.size, 0, none⟩ = some (.string u.scheme) ∧ blk12 wx w.heap.size = some (.cells #[.string u.scheme, .string u.user, .string u.pass, .int .i64 u.kind, .string u.name, .int .u32 (u.v4 : Int), .int .u16 (u.a0 : Int), .int .u16 (u.a1 : Int), .int .u16 (u.a2 : Int), .int .u16 (u.a3 : Int), .int .u16 (u.a4 : Int), .int .u16 (u.a5 : Int), .int .u16 (u.a6 : Int), .int .u16 (u.a7 : Int), .int .i64 u.port, .bool u.opaq, .slice A n c, .bool u.hasQ, .string u.query, .bool false, .string u.frag] 29 (0, 0))) (first | exact ⟨s0, sb⟩ | exact ⟨r3_0, r3_b⟩ | exact ⟨r4_0, r4_b⟩ | exact ⟨r5_0, r5_b⟩ | exact keep12 _ r3_0 r3_b | exact keep12 _ r4_0 r4_b | go_keep) (first
    | (go_at_call 19; (with_reducible refine (HAu.out _ (bn12 HX.out (by first | exact HBc.out | exact HBc.out.drew))).mono ?_); rintro e w3 ⟨rfl, hb⟩; (first | have HBc := Lib.hid (bn12 HBc.out hb) | have HBc := Lib.hid (bng12 HBc.out hb)); (obtain ⟨r3_b, r3_0, r3_17, r3_18, r3_19, r3_20⟩ := HCs.out _ HBc.out); clear hb)
    | (go_at_call 12; (with_reducible refine (HPa.out _ (bn12 HX.out (by first | exact HBc.out | exact HBc.out.drew))).mono ?_); rintro e w4 ⟨rfl, hb⟩; (first | have HBc := Lib.hid (bn12 HBc.out hb) | have HBc := Lib.hid (bng12 HBc.out hb)); (obtain ⟨r4_b, r4_0, r4_17, r4_18, r4_19, r4_20⟩ := HCs.out _ HBc.out); clear hb)
    | (go_at_call 18; (with_reducible refine (HJ.out _ _ (by first | rfl | simp)).mono ?_); rintro e w5 ⟨rfl, hb⟩; (first | have HBc := Lib.hid (bn12 HBc.out hb) | have HBc := Lib.hid (bng12 HBc.out hb)); (obtain ⟨r5_b, r5_0, r5_17, r5_18, r5_19, r5_20⟩ := HCs.out _ HBc.out); clear hb))
  all_goals
    go_wp2
    go_ret
    exact ⟨rfl, bn12 HX.out HBc.out⟩

theorem text12_pany (u : Url12) (bare : Bool) (A : Option Addr) (n c : Nat) (w : World) (h : At12 w u A n c) (hpw : Pow w) (h8 : V8 w) :
    Calls Tryd.prog 10 #[.agg #[.string u.scheme, .string u.user, .string u.pass, .int .i64 u.kind, .string u.name, .int .u32 (u.v4 : Int), .int .u16 (u.a0 : Int), .int .u16 (u.a1 : Int), .int .u16 (u.a2 : Int), .int .u16 (u.a3 : Int), .int .u16 (u.a4 : Int), .int .u16 (u.a5 : Int), .int .u16 (u.a6 : Int), .int .u16 (u.a7 : Int), .int .i64 u.port, .bool u.opaq, .slice A n c, .bool u.hasQ, .string u.query, .bool u.hasF, .string u.frag], .bool bare] w (Txt12 (text12 u bare) w) := by
  cases hf : u.hasF <;> cases bare
  · have := text12_ff u A n c w h hpw h8 hf; rwa [hf] at this
  · have := text12_ft u A n c w h hpw h8 hf; rwa [hf] at this
  · have := text12_tf u A n c w h hpw h8 hf; rwa [hf] at this
  · have := text12_tt u A n c w h hpw h8 hf; rwa [hf] at this
end Go.Proofs.YtliklhldlofnjaaDoor

/-
  In this text, one behind the other: RecGAuth, RecGAuth2, RecGAuth3.
-/
import Derived.BigQuiet
import Derived.Deep.AppendLies
import Derived.Deep.Light
import Derived.Deep.LoopGhost
import Derived.Deep.QuietTactic
import Derived.Deep.RegionHeld3
import Derived.Deep.RegionWith
import Derived.Deep.WholeRow
import Derived.IntWalk
import Derived.LaidEql
import Derived.Laws.AppendOwnNone
import Derived.Laws.Bits64b
import Derived.Laws.BitsAllLaws
import Derived.Laws.BitsLemmas
import Derived.Laws.Cover4
import Derived.Laws.IdiomStrings
import Derived.Laws.Rows
import Derived.Laws.Tables
import Derived.Lib.Hide
import Derived.Lib.IndexBytes
import Derived.Lib.IndexMore
import Derived.Lib.Join
import Derived.Lib.ParseIntB
import Derived.Maps.AppendAt
import Derived.RowKitTokens
import Derived.Shelf.Spec.TrailingZeros
import Derived.Shelf.Strconv.Itoa3
import Derived.Shelf.Strings.OnBuilder
import Derived.Stop.Asserts
import Derived.WalkKit
import Derived.WalkLawsBesides
import Derived.WalkMore
import Derived.WalkSpells
import Derived.Test.YtliklhldlofnjaaDoorRows
import Derived.Test.YtliklhldlofnjaaDoorG19
import Derived.Test.YtliklhldlofnjaaDoorG23
/-
  The program's authority of layer 12, by its contract (written by mkrecg.py).
-/
namespace Go.Proofs.YtliklhldlofnjaaDoor
open Go.RowKit

theorem acells12 {w : World} (x0 x1 x2 x3 x4 x5 x6 x7 x8 x9 x10 x11 x12 x13 x14 x15 x16 x17 x18 x19 x20 : Value) : ∀ wx, Below (w.alloc (.cells #[x0, x1, x2, x3, x4, x5, x6, x7, x8, x9, x10, x11, x12, x13, x14, x15, x16, x17, x18, x19, x20] 29)).heap.size (w.alloc (.cells #[x0, x1, x2, x3, x4, x5, x6, x7, x8, x9, x10, x11, x12, x13, x14, x15, x16, x17, x18, x19, x20] 29)) wx → wx.cell? ⟨w.heap.size, 1, none⟩ = some x1 ∧ wx.cell? ⟨w.heap.size, 2, none⟩ = some x2 ∧ wx.cell? ⟨w.heap.size, 3, none⟩ = some x3 ∧ wx.cell? ⟨w.heap.size, 4, none⟩ = some x4 ∧ wx.cell? ⟨w.heap.size, 5, none⟩ = some x5 ∧ wx.cell? ⟨w.heap.size, 6, none⟩ = some x6 ∧ wx.cell? ⟨w.heap.size, 7, none⟩ = some x7 ∧ wx.cell? ⟨w.heap.size, 8, none⟩ = some x8 ∧ wx.cell? ⟨w.heap.size, 9, none⟩ = some x9 ∧ wx.cell? ⟨w.heap.size, 10, none⟩ = some x10 ∧ wx.cell? ⟨w.heap.size, 11, none⟩ = some x11 ∧ wx.cell? ⟨w.heap.size, 12, none⟩ = some x12 ∧ wx.cell? ⟨w.heap.size, 13, none⟩ = some x13 ∧ wx.cell? ⟨w.heap.size, 14, none⟩ = some x14 := by
  intro wx hb
  have h : wx.heap[w.heap.size]? = some (.cells #[x0, x1, x2, x3, x4, x5, x6, x7, x8, x9, x10, x11, x12, x13, x14, x15, x16, x17, x18, x19, x20] 29 (0, 0)) := (hb.block w.heap.size (by simp)).trans (heap_alloc_new w _)
  refine ⟨?_, ?_, ?_, ?_, ?_, ?_, ?_, ?_, ?_, ?_, ?_, ?_, ?_, ?_⟩
  all_goals simp [World.cell?, h]
theorem ghtext12 {u : Url12} (hn : Nums12 u) {t : ByteArray} (ht : txt10 (textK u.kind u.name.data.toList u.v4 u.v6) = t) (w : World) (hp : Pow w) (h8 : V8 w) :
    Calls Tryd.prog 28 #[.agg #[.int .i64 u.kind, .string u.name, .int .u32 (u.v4 : Int), .int .u16 (u.a0 : Int), .int .u16 (u.a1 : Int), .int .u16 (u.a2 : Int), .int .u16 (u.a3 : Int), .int .u16 (u.a4 : Int), .int .u16 (u.a5 : Int), .int .u16 (u.a6 : Int), .int .u16 (u.a7 : Int)]] w fun e w' => e = .returned (.string t) ∧ Below w.heap.size w w' := by
  have := gotext_any u.kind u.name u.v4 u.a0 u.a1 u.a2 u.a3 u.a4 u.a5 u.a6 u.a7 w hn.v4 hn.v6 hp h8
  have e : btx (textK u.kind u.name.data.toList u.v4 [u.a0, u.a1, u.a2, u.a3, u.a4, u.a5, u.a6, u.a7]) = t := ht
  rw [e] at this
  exact this
theorem bng12 {w a b : World} (h : Below w.heap.size w a) (k : Below a.drew.heap.size a.drew b) : Below w.heap.size w b := bn12 (h.drew) k
set_option maxHeartbeats 4000000 in
set_option maxRecDepth 100000 in
theorem auth12_Any (u : Url12) (A : Option Addr) (n c : Nat) (w : World) (hw : Wee12 u) (hpw : Pow w) (h8 : V8 w) (hk : u.kind ≠ 0) (hu : (u.user.toList == []) = true) (hu2 : u.user = ⟨#[]⟩) (hp : (u.pass.toList == []) = true) (hp2 : u.pass = ⟨#[]⟩) (h0 : 0 ≤ u.port) :
    Calls Tryd.prog 19 #[.agg #[.string u.scheme, .string u.user, .string u.pass, .int .i64 u.kind, .string u.name, .int .u32 (u.v4 : Int), .int .u16 (u.a0 : Int), .int .u16 (u.a1 : Int), .int .u16 (u.a2 : Int), .int .u16 (u.a3 : Int), .int .u16 (u.a4 : Int), .int .u16 (u.a5 : Int), .int .u16 (u.a6 : Int), .int .u16 (u.a7 : Int), .int .i64 u.port, .bool u.opaq, .slice A n c, .bool u.hasQ, .string u.query, .bool u.hasF, .string u.frag]] w (Txt12 (front12 u) w) := by
  obtain ⟨T, hT⟩ : ∃ T, txt10 (textK u.kind u.name.data.toList u.v4 u.v6) = T := ⟨_, rfl⟩
  obtain ⟨N, hN⟩ : ∃ N, txt10 (Lib.itoa u.port) = N := ⟨_, rfl⟩
  obtain ⟨tp, htp⟩ : ∃ t, txt10 (if false then (⟨#[58]⟩ : ByteArray).data.toList ++ u.pass.data.toList else []) = t := ⟨_, rfl⟩
  obtain ⟨tw, htw⟩ : ∃ t, txt10 (if false then u.user.data.toList ++ (tp.data.toList ++ (⟨#[64]⟩ : ByteArray).data.toList) else []) = t := ⟨_, rfl⟩
  obtain ⟨tt, htt⟩ : ∃ t, txt10 (if true then (⟨#[58]⟩ : ByteArray).data.toList ++ N.data.toList else []) = t := ⟨_, rfl⟩
  obtain ⟨R, hR⟩ : ∃ R, txt10 ((⟨#[47, 47]⟩ : ByteArray).data.toList ++ (tw.data.toList ++ (T.data.toList ++ tt.data.toList))) = R := ⟨_, rfl⟩
  have HF : Hid (txt10 (front12 u) = R) := by
    show _ = R
    rw [← hR]
    refine congrArg txt10 ?_
    unfold front12 cred12 port12
    rw [if_pos hk, ← htw, ← htp, ← hT, ← htt, ← hN]
    rw [itoa12_is h0]
    simp [hu2, hp2, h0, txt10_list]
  have z1 := hw.user; have z2 := hw.pass
  have zN : N.size ≤ 20 := by rw [← hN, txt10_size]; exact itoa12_len hw.nums.p0 hw.nums.p1
  have zT : T.size ≤ 200 := by rw [← hT, txt10_size]; exact textK_len (by have := hw.name; simpa using this) hw.nums.v4 rfl hw.nums.v6
  have q1 : (⟨#[58]⟩ : ByteArray).size = 1 := rfl
  have q2 : (⟨#[64]⟩ : ByteArray).size = 1 := rfl
  have q3 : (⟨#[47, 47]⟩ : ByteArray).size = 2 := rfl
  have zp : tp.size ≤ 201 := by rw [← htp, txt10_size]; simp; 
  have zw : tw.size ≤ 500 := by rw [← htw, txt10_size]; simp; 
  have zt : tt.size ≤ 21 := by rw [← htt, txt10_size]; simp; omega
  have HP := Lib.hid (fun (W : World) (p : Nat) (hp : p = W.heap.size) => given_two false htp (by omega) 9 hp)
  have HW := Lib.hid (fun (W : World) (p : Nat) (hp : p = W.heap.size) => given_three false htw (by omega) 9 hp)
  have HO := Lib.hid (fun (W : World) (p : Nat) (hp : p = W.heap.size) => given_two true htt (by omega) 9 hp)
  have HJ := Lib.hid (fun (W : World) (p : Nat) (hp : p = W.heap.size) => join_four hR (by omega) 9 hp)
  have HI := Lib.hid (fun (W : World) (hb : Below w.heap.size w W) => itoa12_any hN hw.nums.p0 hw.nums.p1 W (hpw.below hb))
  have HT := Lib.hid (fun (W : World) (hb : Below w.heap.size w W) => ghtext12 hw.nums hT W (hpw.below hb) (h8.below hb))
  have HCs := Lib.hid (acells12 (w := w) (.string u.scheme) (.string u.user) (.string u.pass) (.int .i64 u.kind) (.string u.name) (.int .u32 (u.v4 : Int)) (.int .u16 (u.a0 : Int)) (.int .u16 (u.a1 : Int)) (.int .u16 (u.a2 : Int)) (.int .u16 (u.a3 : Int)) (.int .u16 (u.a4 : Int)) (.int .u16 (u.a5 : Int)) (.int .u16 (u.a6 : Int)) (.int .u16 (u.a7 : Int)) (.int .i64 u.port) (.bool u.opaq) (.slice A n c) (.bool u.hasQ) (.string u.query) (.bool u.hasF) (.string u.frag))
  have HX : Hid (Below w.heap.size w (w.alloc (.cells #[.string u.scheme, .string u.user, .string u.pass, .int .i64 u.kind, .string u.name, .int .u32 (u.v4 : Int), .int .u16 (u.a0 : Int), .int .u16 (u.a1 : Int), .int .u16 (u.a2 : Int), .int .u16 (u.a3 : Int), .int .u16 (u.a4 : Int), .int .u16 (u.a5 : Int), .int .u16 (u.a6 : Int), .int .u16 (u.a7 : Int), .int .i64 u.port, .bool u.opaq, .slice A n c, .bool u.hasQ, .string u.query, .bool u.hasF, .string u.frag] 29))) := bel12 _ _
  have HBc : Hid (Below (w.alloc (.cells #[.string u.scheme, .string u.user, .string u.pass, .int .i64 u.kind, .string u.name, .int .u32 (u.v4 : Int), .int .u16 (u.a0 : Int), .int .u16 (u.a1 : Int), .int .u16 (u.a2 : Int), .int .u16 (u.a3 : Int), .int .u16 (u.a4 : Int), .int .u16 (u.a5 : Int), .int .u16 (u.a6 : Int), .int .u16 (u.a7 : Int), .int .i64 u.port, .bool u.opaq, .slice A n c, .bool u.hasQ, .string u.query, .bool u.hasF, .string u.frag] 29)).heap.size (w.alloc (.cells #[.string u.scheme, .string u.user, .string u.pass, .int .i64 u.kind, .string u.name, .int .u32 (u.v4 : Int), .int .u16 (u.a0 : Int), .int .u16 (u.a1 : Int), .int .u16 (u.a2 : Int), .int .u16 (u.a3 : Int), .int .u16 (u.a4 : Int), .int .u16 (u.a5 : Int), .int .u16 (u.a6 : Int), .int .u16 (u.a7 : Int), .int .i64 u.port, .bool u.opaq, .slice A n c, .bool u.hasQ, .string u.query, .bool u.hasF, .string u.frag] 29)) (w.alloc (.cells #[.string u.scheme, .string u.user, .string u.pass, .int .i64 u.kind, .string u.name, .int .u32 (u.v4 : Int), .int .u16 (u.a0 : Int), .int .u16 (u.a1 : Int), .int .u16 (u.a2 : Int), .int .u16 (u.a3 : Int), .int .u16 (u.a4 : Int), .int .u16 (u.a5 : Int), .int .u16 (u.a6 : Int), .int .u16 (u.a7 : Int), .int .i64 u.port, .bool u.opaq, .slice A n c, .bool u.hasQ, .string u.query, .bool u.hasF, .string u.frag] 29))) := Below.refl _ _
  obtain ⟨s1, s2, s3, s4, s5, s6, s7, s8, s9, s10, s11, s12, s13, s14⟩ := HCs.out _ HBc.out
  have e1 : (u.kind == 0) = false := beq_eq_false_iff_ne.2 hk
  have e2 : decide ((0 : Int) ≤ u.port) = true := decide_eq_true h0
  unfold Txt12
  rw [HF.out]
  clear hT hN htp htw htt hR z1 z2 zN zT zp zw zt q1 q2 q3 hw hpw h8 hk hu2 hp2 h0 HF
  go_enter Tryd.func19, Tryd.ntmps19
  go_wp2_with (first
    | (go_at_call 17; (with_reducible refine (HP.out _ _ (by first | rfl | simp)).mono ?_); rintro e w1 ⟨rfl, hb⟩; have HBc := Lib.hid (bn12 HBc.out hb); clear s1 s2 s3 s4 s5 s6 s7 s8 s9 s10 s11 s12 s13 s14; (obtain ⟨s1, s2, s3, s4, s5, s6, s7, s8, s9, s10, s11, s12, s13, s14⟩ := HCs.out _ HBc.out); clear hb)
    | (go_at_call 17; (with_reducible refine (HW.out _ _ (by first | rfl | simp)).mono ?_); rintro e w2 ⟨rfl, hb⟩; have HBc := Lib.hid (bn12 HBc.out hb); clear s1 s2 s3 s4 s5 s6 s7 s8 s9 s10 s11 s12 s13 s14; (obtain ⟨s1, s2, s3, s4, s5, s6, s7, s8, s9, s10, s11, s12, s13, s14⟩ := HCs.out _ HBc.out); clear hb))
  clear s1 s2 s3 s4 s5 s6 s7 s8 s9 s10 s11 s12 s13
  go_region_held3 (fun wx => wx.cell? ⟨w.heap.size, 14, none⟩ = some (.int .i64 u.port)) (first | exact s14 | exact hS3 | exact hS4 | go_keep) (first
    | (go_at_call 27; (with_reducible refine (HI.out _ (bn12 HX.out (by first | exact HBc.out | exact HBc.out.drew))).mono ?_); rintro e w3 ⟨rfl, hb⟩; (first | have HBc := Lib.hid (bn12 HBc.out hb) | have HBc := Lib.hid (bng12 HBc.out hb)); (obtain ⟨_, _, _, _, _, _, _, _, _, _, _, _, _, hS3⟩ := HCs.out _ HBc.out); clear hb)
    | (go_at_call 17; (with_reducible refine (HO.out _ _ (by first | rfl | simp)).mono ?_); rintro e w4 ⟨rfl, hb⟩; (first | have HBc := Lib.hid (bn12 HBc.out hb) | have HBc := Lib.hid (bng12 HBc.out hb)); (obtain ⟨_, _, _, _, _, _, _, _, _, _, _, _, _, hS4⟩ := HCs.out _ HBc.out); clear hb))
  all_goals
    obtain ⟨s1, s2, s3, s4, s5, s6, s7, s8, s9, s10, s11, s12, s13, s14⟩ := HCs.out _ HBc.out
    go_wp2_with (first
      | (go_at_call 28; (with_reducible refine (HT.out _ (bn12 HX.out HBc.out)).mono ?_); rintro e w5 ⟨rfl, hb⟩; have HBc := Lib.hid (bn12 HBc.out hb); clear s1 s2 s3 s4 s5 s6 s7 s8 s9 s10 s11 s12 s13 s14; (obtain ⟨s1, s2, s3, s4, s5, s6, s7, s8, s9, s10, s11, s12, s13, s14⟩ := HCs.out _ HBc.out); clear hb)
      | (go_at_call 18; (with_reducible refine (HJ.out _ _ (by first | rfl | simp)).mono ?_); rintro e w6 ⟨rfl, hb⟩; have HBc := Lib.hid (bn12 HBc.out hb); clear s1 s2 s3 s4 s5 s6 s7 s8 s9 s10 s11 s12 s13 s14; (obtain ⟨s1, s2, s3, s4, s5, s6, s7, s8, s9, s10, s11, s12, s13, s14⟩ := HCs.out _ HBc.out); clear hb))
    go_ret
    exact ⟨rfl, bn12 HX.out HBc.out⟩

set_option maxHeartbeats 4000000 in
set_option maxRecDepth 100000 in
theorem auth12_Ann (u : Url12) (A : Option Addr) (n c : Nat) (w : World) (hw : Wee12 u) (hpw : Pow w) (h8 : V8 w) (hk : u.kind ≠ 0) (hu : (u.user.toList == []) = true) (hu2 : u.user = ⟨#[]⟩) (hp : (u.pass.toList == []) = true) (hp2 : u.pass = ⟨#[]⟩) (h0 : ¬ 0 ≤ u.port) :
    Calls Tryd.prog 19 #[.agg #[.string u.scheme, .string u.user, .string u.pass, .int .i64 u.kind, .string u.name, .int .u32 (u.v4 : Int), .int .u16 (u.a0 : Int), .int .u16 (u.a1 : Int), .int .u16 (u.a2 : Int), .int .u16 (u.a3 : Int), .int .u16 (u.a4 : Int), .int .u16 (u.a5 : Int), .int .u16 (u.a6 : Int), .int .u16 (u.a7 : Int), .int .i64 u.port, .bool u.opaq, .slice A n c, .bool u.hasQ, .string u.query, .bool u.hasF, .string u.frag]] w (Txt12 (front12 u) w) := by
  obtain ⟨T, hT⟩ : ∃ T, txt10 (textK u.kind u.name.data.toList u.v4 u.v6) = T := ⟨_, rfl⟩
  obtain ⟨N, hN⟩ : ∃ N, txt10 (Lib.itoa u.port) = N := ⟨_, rfl⟩
  obtain ⟨tp, htp⟩ : ∃ t, txt10 (if false then (⟨#[58]⟩ : ByteArray).data.toList ++ u.pass.data.toList else []) = t := ⟨_, rfl⟩
  obtain ⟨tw, htw⟩ : ∃ t, txt10 (if false then u.user.data.toList ++ (tp.data.toList ++ (⟨#[64]⟩ : ByteArray).data.toList) else []) = t := ⟨_, rfl⟩
  obtain ⟨tt, htt⟩ : ∃ t, txt10 (if false then (⟨#[58]⟩ : ByteArray).data.toList ++ N.data.toList else []) = t := ⟨_, rfl⟩
  obtain ⟨R, hR⟩ : ∃ R, txt10 ((⟨#[47, 47]⟩ : ByteArray).data.toList ++ (tw.data.toList ++ (T.data.toList ++ tt.data.toList))) = R := ⟨_, rfl⟩
  have HF : Hid (txt10 (front12 u) = R) := by
    show _ = R
    rw [← hR]
    refine congrArg txt10 ?_
    unfold front12 cred12 port12
    rw [if_pos hk, ← htw, ← htp, ← hT, ← htt, ← hN]
    skip
    simp [hu2, hp2, h0, txt10_list]
  have z1 := hw.user; have z2 := hw.pass
  have zN : N.size ≤ 20 := by rw [← hN, txt10_size]; exact itoa12_len hw.nums.p0 hw.nums.p1
  have zT : T.size ≤ 200 := by rw [← hT, txt10_size]; exact textK_len (by have := hw.name; simpa using this) hw.nums.v4 rfl hw.nums.v6
  have q1 : (⟨#[58]⟩ : ByteArray).size = 1 := rfl
  have q2 : (⟨#[64]⟩ : ByteArray).size = 1 := rfl
  have q3 : (⟨#[47, 47]⟩ : ByteArray).size = 2 := rfl
  have zp : tp.size ≤ 201 := by rw [← htp, txt10_size]; simp; 
  have zw : tw.size ≤ 500 := by rw [← htw, txt10_size]; simp; 
  have zt : tt.size ≤ 21 := by rw [← htt, txt10_size]; simp; 
  have HP := Lib.hid (fun (W : World) (p : Nat) (hp : p = W.heap.size) => given_two false htp (by omega) 9 hp)
  have HW := Lib.hid (fun (W : World) (p : Nat) (hp : p = W.heap.size) => given_three false htw (by omega) 9 hp)
  have HO := Lib.hid (fun (W : World) (p : Nat) (hp : p = W.heap.size) => given_two false htt (by omega) 9 hp)
  have HJ := Lib.hid (fun (W : World) (p : Nat) (hp : p = W.heap.size) => join_four hR (by omega) 9 hp)
  have HI := Lib.hid (fun (W : World) (hb : Below w.heap.size w W) => itoa12_any hN hw.nums.p0 hw.nums.p1 W (hpw.below hb))
  have HT := Lib.hid (fun (W : World) (hb : Below w.heap.size w W) => ghtext12 hw.nums hT W (hpw.below hb) (h8.below hb))
  have HCs := Lib.hid (acells12 (w := w) (.string u.scheme) (.string u.user) (.string u.pass) (.int .i64 u.kind) (.string u.name) (.int .u32 (u.v4 : Int)) (.int .u16 (u.a0 : Int)) (.int .u16 (u.a1 : Int)) (.int .u16 (u.a2 : Int)) (.int .u16 (u.a3 : Int)) (.int .u16 (u.a4 : Int)) (.int .u16 (u.a5 : Int)) (.int .u16 (u.a6 : Int)) (.int .u16 (u.a7 : Int)) (.int .i64 u.port) (.bool u.opaq) (.slice A n c) (.bool u.hasQ) (.string u.query) (.bool u.hasF) (.string u.frag))
  have HX : Hid (Below w.heap.size w (w.alloc (.cells #[.string u.scheme, .string u.user, .string u.pass, .int .i64 u.kind, .string u.name, .int .u32 (u.v4 : Int), .int .u16 (u.a0 : Int), .int .u16 (u.a1 : Int), .int .u16 (u.a2 : Int), .int .u16 (u.a3 : Int), .int .u16 (u.a4 : Int), .int .u16 (u.a5 : Int), .int .u16 (u.a6 : Int), .int .u16 (u.a7 : Int), .int .i64 u.port, .bool u.opaq, .slice A n c, .bool u.hasQ, .string u.query, .bool u.hasF, .string u.frag] 29))) := bel12 _ _
  have HBc : Hid (Below (w.alloc (.cells #[.string u.scheme, .string u.user, .string u.pass, .int .i64 u.kind, .string u.name, .int .u32 (u.v4 : Int), .int .u16 (u.a0 : Int), .int .u16 (u.a1 : Int), .int .u16 (u.a2 : Int), .int .u16 (u.a3 : Int), .int .u16 (u.a4 : Int), .int .u16 (u.a5 : Int), .int .u16 (u.a6 : Int), .int .u16 (u.a7 : Int), .int .i64 u.port, .bool u.opaq, .slice A n c, .bool u.hasQ, .string u.query, .bool u.hasF, .string u.frag] 29)).heap.size (w.alloc (.cells #[.string u.scheme, .string u.user, .string u.pass, .int .i64 u.kind, .string u.name, .int .u32 (u.v4 : Int), .int .u16 (u.a0 : Int), .int .u16 (u.a1 : Int), .int .u16 (u.a2 : Int), .int .u16 (u.a3 : Int), .int .u16 (u.a4 : Int), .int .u16 (u.a5 : Int), .int .u16 (u.a6 : Int), .int .u16 (u.a7 : Int), .int .i64 u.port, .bool u.opaq, .slice A n c, .bool u.hasQ, .string u.query, .bool u.hasF, .string u.frag] 29)) (w.alloc (.cells #[.string u.scheme, .string u.user, .string u.pass, .int .i64 u.kind, .string u.name, .int .u32 (u.v4 : Int), .int .u16 (u.a0 : Int), .int .u16 (u.a1 : Int), .int .u16 (u.a2 : Int), .int .u16 (u.a3 : Int), .int .u16 (u.a4 : Int), .int .u16 (u.a5 : Int), .int .u16 (u.a6 : Int), .int .u16 (u.a7 : Int), .int .i64 u.port, .bool u.opaq, .slice A n c, .bool u.hasQ, .string u.query, .bool u.hasF, .string u.frag] 29))) := Below.refl _ _
  obtain ⟨s1, s2, s3, s4, s5, s6, s7, s8, s9, s10, s11, s12, s13, s14⟩ := HCs.out _ HBc.out
  have e1 : (u.kind == 0) = false := beq_eq_false_iff_ne.2 hk
  have e2 : decide ((0 : Int) ≤ u.port) = false := decide_eq_false h0
  unfold Txt12
  rw [HF.out]
  clear hT hN htp htw htt hR z1 z2 zN zT zp zw zt q1 q2 q3 hw hpw h8 hk hu2 hp2 h0 HF
  go_enter Tryd.func19, Tryd.ntmps19
  go_wp2_with (first
    | (go_at_call 17; (with_reducible refine (HP.out _ _ (by first | rfl | simp)).mono ?_); rintro e w1 ⟨rfl, hb⟩; have HBc := Lib.hid (bn12 HBc.out hb); clear s1 s2 s3 s4 s5 s6 s7 s8 s9 s10 s11 s12 s13 s14; (obtain ⟨s1, s2, s3, s4, s5, s6, s7, s8, s9, s10, s11, s12, s13, s14⟩ := HCs.out _ HBc.out); clear hb)
    | (go_at_call 17; (with_reducible refine (HW.out _ _ (by first | rfl | simp)).mono ?_); rintro e w2 ⟨rfl, hb⟩; have HBc := Lib.hid (bn12 HBc.out hb); clear s1 s2 s3 s4 s5 s6 s7 s8 s9 s10 s11 s12 s13 s14; (obtain ⟨s1, s2, s3, s4, s5, s6, s7, s8, s9, s10, s11, s12, s13, s14⟩ := HCs.out _ HBc.out); clear hb))
  clear s1 s2 s3 s4 s5 s6 s7 s8 s9 s10 s11 s12 s13
  go_region_held3 (fun wx => wx.cell? ⟨w.heap.size, 14, none⟩ = some (.int .i64 u.port)) (first | exact s14 | exact hS3 | exact hS4 | go_keep) (first
    | (go_at_call 27; (with_reducible refine (HI.out _ (bn12 HX.out (by first | exact HBc.out | exact HBc.out.drew))).mono ?_); rintro e w3 ⟨rfl, hb⟩; (first | have HBc := Lib.hid (bn12 HBc.out hb) | have HBc := Lib.hid (bng12 HBc.out hb)); (obtain ⟨_, _, _, _, _, _, _, _, _, _, _, _, _, hS3⟩ := HCs.out _ HBc.out); clear hb)
    | (go_at_call 17; (with_reducible refine (HO.out _ _ (by first | rfl | simp)).mono ?_); rintro e w4 ⟨rfl, hb⟩; (first | have HBc := Lib.hid (bn12 HBc.out hb) | have HBc := Lib.hid (bng12 HBc.out hb)); (obtain ⟨_, _, _, _, _, _, _, _, _, _, _, _, _, hS4⟩ := HCs.out _ HBc.out); clear hb))
  all_goals
    obtain ⟨s1, s2, s3, s4, s5, s6, s7, s8, s9, s10, s11, s12, s13, s14⟩ := HCs.out _ HBc.out
    go_wp2_with (first
      | (go_at_call 28; (with_reducible refine (HT.out _ (bn12 HX.out HBc.out)).mono ?_); rintro e w5 ⟨rfl, hb⟩; have HBc := Lib.hid (bn12 HBc.out hb); clear s1 s2 s3 s4 s5 s6 s7 s8 s9 s10 s11 s12 s13 s14; (obtain ⟨s1, s2, s3, s4, s5, s6, s7, s8, s9, s10, s11, s12, s13, s14⟩ := HCs.out _ HBc.out); clear hb)
      | (go_at_call 18; (with_reducible refine (HJ.out _ _ (by first | rfl | simp)).mono ?_); rintro e w6 ⟨rfl, hb⟩; have HBc := Lib.hid (bn12 HBc.out hb); clear s1 s2 s3 s4 s5 s6 s7 s8 s9 s10 s11 s12 s13 s14; (obtain ⟨s1, s2, s3, s4, s5, s6, s7, s8, s9, s10, s11, s12, s13, s14⟩ := HCs.out _ HBc.out); clear hb))
    go_ret
    exact ⟨rfl, bn12 HX.out HBc.out⟩

set_option maxHeartbeats 4000000 in
set_option maxRecDepth 100000 in
theorem auth12_Ayy (u : Url12) (A : Option Addr) (n c : Nat) (w : World) (hw : Wee12 u) (hpw : Pow w) (h8 : V8 w) (hk : u.kind ≠ 0) (hu : (u.user.toList == []) = true) (hu2 : u.user = ⟨#[]⟩) (hp : (u.pass.toList == []) = false) (hp2 : u.pass ≠ ⟨#[]⟩) (h0 : 0 ≤ u.port) :
    Calls Tryd.prog 19 #[.agg #[.string u.scheme, .string u.user, .string u.pass, .int .i64 u.kind, .string u.name, .int .u32 (u.v4 : Int), .int .u16 (u.a0 : Int), .int .u16 (u.a1 : Int), .int .u16 (u.a2 : Int), .int .u16 (u.a3 : Int), .int .u16 (u.a4 : Int), .int .u16 (u.a5 : Int), .int .u16 (u.a6 : Int), .int .u16 (u.a7 : Int), .int .i64 u.port, .bool u.opaq, .slice A n c, .bool u.hasQ, .string u.query, .bool u.hasF, .string u.frag]] w (Txt12 (front12 u) w) := by
  obtain ⟨T, hT⟩ : ∃ T, txt10 (textK u.kind u.name.data.toList u.v4 u.v6) = T := ⟨_, rfl⟩
  obtain ⟨N, hN⟩ : ∃ N, txt10 (Lib.itoa u.port) = N := ⟨_, rfl⟩
  obtain ⟨tp, htp⟩ : ∃ t, txt10 (if true then (⟨#[58]⟩ : ByteArray).data.toList ++ u.pass.data.toList else []) = t := ⟨_, rfl⟩
  obtain ⟨tw, htw⟩ : ∃ t, txt10 (if true then u.user.data.toList ++ (tp.data.toList ++ (⟨#[64]⟩ : ByteArray).data.toList) else []) = t := ⟨_, rfl⟩
  obtain ⟨tt, htt⟩ : ∃ t, txt10 (if true then (⟨#[58]⟩ : ByteArray).data.toList ++ N.data.toList else []) = t := ⟨_, rfl⟩
  obtain ⟨R, hR⟩ : ∃ R, txt10 ((⟨#[47, 47]⟩ : ByteArray).data.toList ++ (tw.data.toList ++ (T.data.toList ++ tt.data.toList))) = R := ⟨_, rfl⟩
  have HF : Hid (txt10 (front12 u) = R) := by
    show _ = R
    rw [← hR]
    refine congrArg txt10 ?_
    unfold front12 cred12 port12
    rw [if_pos hk, ← htw, ← htp, ← hT, ← htt, ← hN]
    rw [itoa12_is h0]
    simp [hu2, hp2, h0, txt10_list]
  have z1 := hw.user; have z2 := hw.pass
  have zN : N.size ≤ 20 := by rw [← hN, txt10_size]; exact itoa12_len hw.nums.p0 hw.nums.p1
  have zT : T.size ≤ 200 := by rw [← hT, txt10_size]; exact textK_len (by have := hw.name; simpa using this) hw.nums.v4 rfl hw.nums.v6
  have q1 : (⟨#[58]⟩ : ByteArray).size = 1 := rfl
  have q2 : (⟨#[64]⟩ : ByteArray).size = 1 := rfl
  have q3 : (⟨#[47, 47]⟩ : ByteArray).size = 2 := rfl
  have zp : tp.size ≤ 201 := by rw [← htp, txt10_size]; simp; omega
  have zw : tw.size ≤ 500 := by rw [← htw, txt10_size]; simp; omega
  have zt : tt.size ≤ 21 := by rw [← htt, txt10_size]; simp; omega
  have HP := Lib.hid (fun (W : World) (p : Nat) (hp : p = W.heap.size) => given_two true htp (by omega) 9 hp)
  have HW := Lib.hid (fun (W : World) (p : Nat) (hp : p = W.heap.size) => given_three true htw (by omega) 9 hp)
  have HO := Lib.hid (fun (W : World) (p : Nat) (hp : p = W.heap.size) => given_two true htt (by omega) 9 hp)
  have HJ := Lib.hid (fun (W : World) (p : Nat) (hp : p = W.heap.size) => join_four hR (by omega) 9 hp)
  have HI := Lib.hid (fun (W : World) (hb : Below w.heap.size w W) => itoa12_any hN hw.nums.p0 hw.nums.p1 W (hpw.below hb))
  have HT := Lib.hid (fun (W : World) (hb : Below w.heap.size w W) => ghtext12 hw.nums hT W (hpw.below hb) (h8.below hb))
  have HCs := Lib.hid (acells12 (w := w) (.string u.scheme) (.string u.user) (.string u.pass) (.int .i64 u.kind) (.string u.name) (.int .u32 (u.v4 : Int)) (.int .u16 (u.a0 : Int)) (.int .u16 (u.a1 : Int)) (.int .u16 (u.a2 : Int)) (.int .u16 (u.a3 : Int)) (.int .u16 (u.a4 : Int)) (.int .u16 (u.a5 : Int)) (.int .u16 (u.a6 : Int)) (.int .u16 (u.a7 : Int)) (.int .i64 u.port) (.bool u.opaq) (.slice A n c) (.bool u.hasQ) (.string u.query) (.bool u.hasF) (.string u.frag))
  have HX : Hid (Below w.heap.size w (w.alloc (.cells #[.string u.scheme, .string u.user, .string u.pass, .int .i64 u.kind, .string u.name, .int .u32 (u.v4 : Int), .int .u16 (u.a0 : Int), .int .u16 (u.a1 : Int), .int .u16 (u.a2 : Int), .int .u16 (u.a3 : Int), .int .u16 (u.a4 : Int), .int .u16 (u.a5 : Int), .int .u16 (u.a6 : Int), .int .u16 (u.a7 : Int), .int .i64 u.port, .bool u.opaq, .slice A n c, .bool u.hasQ, .string u.query, .bool u.hasF, .string u.frag] 29))) := bel12 _ _
  have HBc : Hid (Below (w.alloc (.cells #[.string u.scheme, .string u.user, .string u.pass, .int .i64 u.kind, .string u.name, .int .u32 (u.v4 : Int), .int .u16 (u.a0 : Int), .int .u16 (u.a1 : Int), .int .u16 (u.a2 : Int), .int .u16 (u.a3 : Int), .int .u16 (u.a4 : Int), .int .u16 (u.a5 : Int), .int .u16 (u.a6 : Int), .int .u16 (u.a7 : Int), .int .i64 u.port, .bool u.opaq, .slice A n c, .bool u.hasQ, .string u.query, .bool u.hasF, .string u.frag] 29)).heap.size (w.alloc (.cells #[.string u.scheme, .string u.user, .string u.pass, .int .i64 u.kind, .string u.name, .int .u32 (u.v4 : Int), .int .u16 (u.a0 : Int), .int .u16 (u.a1 : Int), .int .u16 (u.a2 : Int), .int .u16 (u.a3 : Int), .int .u16 (u.a4 : Int), .int .u16 (u.a5 : Int), .int .u16 (u.a6 : Int), .int .u16 (u.a7 : Int), .int .i64 u.port, .bool u.opaq, .slice A n c, .bool u.hasQ, .string u.query, .bool u.hasF, .string u.frag] 29)) (w.alloc (.cells #[.string u.scheme, .string u.user, .string u.pass, .int .i64 u.kind, .string u.name, .int .u32 (u.v4 : Int), .int .u16 (u.a0 : Int), .int .u16 (u.a1 : Int), .int .u16 (u.a2 : Int), .int .u16 (u.a3 : Int), .int .u16 (u.a4 : Int), .int .u16 (u.a5 : Int), .int .u16 (u.a6 : Int), .int .u16 (u.a7 : Int), .int .i64 u.port, .bool u.opaq, .slice A n c, .bool u.hasQ, .string u.query, .bool u.hasF, .string u.frag] 29))) := Below.refl _ _
  obtain ⟨s1, s2, s3, s4, s5, s6, s7, s8, s9, s10, s11, s12, s13, s14⟩ := HCs.out _ HBc.out
  have e1 : (u.kind == 0) = false := beq_eq_false_iff_ne.2 hk
  have e2 : decide ((0 : Int) ≤ u.port) = true := decide_eq_true h0
  unfold Txt12
  rw [HF.out]
  clear hT hN htp htw htt hR z1 z2 zN zT zp zw zt q1 q2 q3 hw hpw h8 hk hu2 hp2 h0 HF
  go_enter Tryd.func19, Tryd.ntmps19
  go_wp2_with (first
    | (go_at_call 17; (with_reducible refine (HP.out _ _ (by first | rfl | simp)).mono ?_); rintro e w1 ⟨rfl, hb⟩; have HBc := Lib.hid (bn12 HBc.out hb); clear s1 s2 s3 s4 s5 s6 s7 s8 s9 s10 s11 s12 s13 s14; (obtain ⟨s1, s2, s3, s4, s5, s6, s7, s8, s9, s10, s11, s12, s13, s14⟩ := HCs.out _ HBc.out); clear hb)
    | (go_at_call 17; (with_reducible refine (HW.out _ _ (by first | rfl | simp)).mono ?_); rintro e w2 ⟨rfl, hb⟩; have HBc := Lib.hid (bn12 HBc.out hb); clear s1 s2 s3 s4 s5 s6 s7 s8 s9 s10 s11 s12 s13 s14; (obtain ⟨s1, s2, s3, s4, s5, s6, s7, s8, s9, s10, s11, s12, s13, s14⟩ := HCs.out _ HBc.out); clear hb))
  clear s1 s2 s3 s4 s5 s6 s7 s8 s9 s10 s11 s12 s13
  go_region_held3 (fun wx => wx.cell? ⟨w.heap.size, 14, none⟩ = some (.int .i64 u.port)) (first | exact s14 | exact hS3 | exact hS4 | go_keep) (first
    | (go_at_call 27; (with_reducible refine (HI.out _ (bn12 HX.out (by first | exact HBc.out | exact HBc.out.drew))).mono ?_); rintro e w3 ⟨rfl, hb⟩; (first | have HBc := Lib.hid (bn12 HBc.out hb) | have HBc := Lib.hid (bng12 HBc.out hb)); (obtain ⟨_, _, _, _, _, _, _, _, _, _, _, _, _, hS3⟩ := HCs.out _ HBc.out); clear hb)
    | (go_at_call 17; (with_reducible refine (HO.out _ _ (by first | rfl | simp)).mono ?_); rintro e w4 ⟨rfl, hb⟩; (first | have HBc := Lib.hid (bn12 HBc.out hb) | have HBc := Lib.hid (bng12 HBc.out hb)); (obtain ⟨_, _, _, _, _, _, _, _, _, _, _, _, _, hS4⟩ := HCs.out _ HBc.out); clear hb))
  all_goals
    obtain ⟨s1, s2, s3, s4, s5, s6, s7, s8, s9, s10, s11, s12, s13, s14⟩ := HCs.out _ HBc.out
    go_wp2_with (first
      | (go_at_call 28; (with_reducible refine (HT.out _ (bn12 HX.out HBc.out)).mono ?_); rintro e w5 ⟨rfl, hb⟩; have HBc := Lib.hid (bn12 HBc.out hb); clear s1 s2 s3 s4 s5 s6 s7 s8 s9 s10 s11 s12 s13 s14; (obtain ⟨s1, s2, s3, s4, s5, s6, s7, s8, s9, s10, s11, s12, s13, s14⟩ := HCs.out _ HBc.out); clear hb)
      | (go_at_call 18; (with_reducible refine (HJ.out _ _ (by first | rfl | simp)).mono ?_); rintro e w6 ⟨rfl, hb⟩; have HBc := Lib.hid (bn12 HBc.out hb); clear s1 s2 s3 s4 s5 s6 s7 s8 s9 s10 s11 s12 s13 s14; (obtain ⟨s1, s2, s3, s4, s5, s6, s7, s8, s9, s10, s11, s12, s13, s14⟩ := HCs.out _ HBc.out); clear hb))
    go_ret
    exact ⟨rfl, bn12 HX.out HBc.out⟩

set_option maxHeartbeats 4000000 in
set_option maxRecDepth 100000 in
theorem auth12_Ayn (u : Url12) (A : Option Addr) (n c : Nat) (w : World) (hw : Wee12 u) (hpw : Pow w) (h8 : V8 w) (hk : u.kind ≠ 0) (hu : (u.user.toList == []) = true) (hu2 : u.user = ⟨#[]⟩) (hp : (u.pass.toList == []) = false) (hp2 : u.pass ≠ ⟨#[]⟩) (h0 : ¬ 0 ≤ u.port) :
    Calls Tryd.prog 19 #[.agg #[.string u.scheme, .string u.user, .string u.pass, .int .i64 u.kind, .string u.name, .int .u32 (u.v4 : Int), .int .u16 (u.a0 : Int), .int .u16 (u.a1 : Int), .int .u16 (u.a2 : Int), .int .u16 (u.a3 : Int), .int .u16 (u.a4 : Int), .int .u16 (u.a5 : Int), .int .u16 (u.a6 : Int), .int .u16 (u.a7 : Int), .int .i64 u.port, .bool u.opaq, .slice A n c, .bool u.hasQ, .string u.query, .bool u.hasF, .string u.frag]] w (Txt12 (front12 u) w) := by
  obtain ⟨T, hT⟩ : ∃ T, txt10 (textK u.kind u.name.data.toList u.v4 u.v6) = T := ⟨_, rfl⟩
  obtain ⟨N, hN⟩ : ∃ N, txt10 (Lib.itoa u.port) = N := ⟨_, rfl⟩
  obtain ⟨tp, htp⟩ : ∃ t, txt10 (if true then (⟨#[58]⟩ : ByteArray).data.toList ++ u.pass.data.toList else []) = t := ⟨_, rfl⟩
  obtain ⟨tw, htw⟩ : ∃ t, txt10 (if true then u.user.data.toList ++ (tp.data.toList ++ (⟨#[64]⟩ : ByteArray).data.toList) else []) = t := ⟨_, rfl⟩
  obtain ⟨tt, htt⟩ : ∃ t, txt10 (if false then (⟨#[58]⟩ : ByteArray).data.toList ++ N.data.toList else []) = t := ⟨_, rfl⟩
  obtain ⟨R, hR⟩ : ∃ R, txt10 ((⟨#[47, 47]⟩ : ByteArray).data.toList ++ (tw.data.toList ++ (T.data.toList ++ tt.data.toList))) = R := ⟨_, rfl⟩
  have HF : Hid (txt10 (front12 u) = R) := by
    show _ = R
    rw [← hR]
    refine congrArg txt10 ?_
    unfold front12 cred12 port12
    rw [if_pos hk, ← htw, ← htp, ← hT, ← htt, ← hN]
    skip
    simp [hu2, hp2, h0, txt10_list]
  have z1 := hw.user; have z2 := hw.pass
  have zN : N.size ≤ 20 := by rw [← hN, txt10_size]; exact itoa12_len hw.nums.p0 hw.nums.p1
  have zT : T.size ≤ 200 := by rw [← hT, txt10_size]; exact textK_len (by have := hw.name; simpa using this) hw.nums.v4 rfl hw.nums.v6
  have q1 : (⟨#[58]⟩ : ByteArray).size = 1 := rfl
  have q2 : (⟨#[64]⟩ : ByteArray).size = 1 := rfl
  have q3 : (⟨#[47, 47]⟩ : ByteArray).size = 2 := rfl
  have zp : tp.size ≤ 201 := by rw [← htp, txt10_size]; simp; omega
  have zw : tw.size ≤ 500 := by rw [← htw, txt10_size]; simp; omega
  have zt : tt.size ≤ 21 := by rw [← htt, txt10_size]; simp; 
  have HP := Lib.hid (fun (W : World) (p : Nat) (hp : p = W.heap.size) => given_two true htp (by omega) 9 hp)
  have HW := Lib.hid (fun (W : World) (p : Nat) (hp : p = W.heap.size) => given_three true htw (by omega) 9 hp)
  have HO := Lib.hid (fun (W : World) (p : Nat) (hp : p = W.heap.size) => given_two false htt (by omega) 9 hp)
  have HJ := Lib.hid (fun (W : World) (p : Nat) (hp : p = W.heap.size) => join_four hR (by omega) 9 hp)
  have HI := Lib.hid (fun (W : World) (hb : Below w.heap.size w W) => itoa12_any hN hw.nums.p0 hw.nums.p1 W (hpw.below hb))
  have HT := Lib.hid (fun (W : World) (hb : Below w.heap.size w W) => ghtext12 hw.nums hT W (hpw.below hb) (h8.below hb))
  have HCs := Lib.hid (acells12 (w := w) (.string u.scheme) (.string u.user) (.string u.pass) (.int .i64 u.kind) (.string u.name) (.int .u32 (u.v4 : Int)) (.int .u16 (u.a0 : Int)) (.int .u16 (u.a1 : Int)) (.int .u16 (u.a2 : Int)) (.int .u16 (u.a3 : Int)) (.int .u16 (u.a4 : Int)) (.int .u16 (u.a5 : Int)) (.int .u16 (u.a6 : Int)) (.int .u16 (u.a7 : Int)) (.int .i64 u.port) (.bool u.opaq) (.slice A n c) (.bool u.hasQ) (.string u.query) (.bool u.hasF) (.string u.frag))
  have HX : Hid (Below w.heap.size w (w.alloc (.cells #[.string u.scheme, .string u.user, .string u.pass, .int .i64 u.kind, .string u.name, .int .u32 (u.v4 : Int), .int .u16 (u.a0 : Int), .int .u16 (u.a1 : Int), .int .u16 (u.a2 : Int), .int .u16 (u.a3 : Int), .int .u16 (u.a4 : Int), .int .u16 (u.a5 : Int), .int .u16 (u.a6 : Int), .int .u16 (u.a7 : Int), .int .i64 u.port, .bool u.opaq, .slice A n c, .bool u.hasQ, .string u.query, .bool u.hasF, .string u.frag] 29))) := bel12 _ _
  have HBc : Hid (Below (w.alloc (.cells #[.string u.scheme, .string u.user, .string u.pass, .int .i64 u.kind, .string u.name, .int .u32 (u.v4 : Int), .int .u16 (u.a0 : Int), .int .u16 (u.a1 : Int), .int .u16 (u.a2 : Int), .int .u16 (u.a3 : Int), .int .u16 (u.a4 : Int), .int .u16 (u.a5 : Int), .int .u16 (u.a6 : Int), .int .u16 (u.a7 : Int), .int .i64 u.port, .bool u.opaq, .slice A n c, .bool u.hasQ, .string u.query, .bool u.hasF, .string u.frag] 29)).heap.size (w.alloc (.cells #[.string u.scheme, .string u.user, .string u.pass, .int .i64 u.kind, .string u.name, .int .u32 (u.v4 : Int), .int .u16 (u.a0 : Int), .int .u16 (u.a1 : Int), .int .u16 (u.a2 : Int), .int .u16 (u.a3 : Int), .int .u16 (u.a4 : Int), .int .u16 (u.a5 : Int), .int .u16 (u.a6 : Int), .int .u16 (u.a7 : Int), .int .i64 u.port, .bool u.opaq, .slice A n c, .bool u.hasQ, .string u.query, .bool u.hasF, .string u.frag] 29)) (w.alloc (.cells #[.string u.scheme, .string u.user, .string u.pass, .int .i64 u.kind, .string u.name, .int .u32 (u.v4 : Int), .int .u16 (u.a0 : Int), .int .u16 (u.a1 : Int), .int .u16 (u.a2 : Int), .int .u16 (u.a3 : Int), .int .u16 (u.a4 : Int), .int .u16 (u.a5 : Int), .int .u16 (u.a6 : Int), .int .u16 (u.a7 : Int), .int .i64 u.port, .bool u.opaq, .slice A n c, .bool u.hasQ, .string u.query, .bool u.hasF, .string u.frag] 29))) := Below.refl _ _
  obtain ⟨s1, s2, s3, s4, s5, s6, s7, s8, s9, s10, s11, s12, s13, s14⟩ := HCs.out _ HBc.out
  have e1 : (u.kind == 0) = false := beq_eq_false_iff_ne.2 hk
  have e2 : decide ((0 : Int) ≤ u.port) = false := decide_eq_false h0
  unfold Txt12
  rw [HF.out]
  clear hT hN htp htw htt hR z1 z2 zN zT zp zw zt q1 q2 q3 hw hpw h8 hk hu2 hp2 h0 HF
  go_enter Tryd.func19, Tryd.ntmps19
  go_wp2_with (first
    | (go_at_call 17; (with_reducible refine (HP.out _ _ (by first | rfl | simp)).mono ?_); rintro e w1 ⟨rfl, hb⟩; have HBc := Lib.hid (bn12 HBc.out hb); clear s1 s2 s3 s4 s5 s6 s7 s8 s9 s10 s11 s12 s13 s14; (obtain ⟨s1, s2, s3, s4, s5, s6, s7, s8, s9, s10, s11, s12, s13, s14⟩ := HCs.out _ HBc.out); clear hb)
    | (go_at_call 17; (with_reducible refine (HW.out _ _ (by first | rfl | simp)).mono ?_); rintro e w2 ⟨rfl, hb⟩; have HBc := Lib.hid (bn12 HBc.out hb); clear s1 s2 s3 s4 s5 s6 s7 s8 s9 s10 s11 s12 s13 s14; (obtain ⟨s1, s2, s3, s4, s5, s6, s7, s8, s9, s10, s11, s12, s13, s14⟩ := HCs.out _ HBc.out); clear hb))
  clear s1 s2 s3 s4 s5 s6 s7 s8 s9 s10 s11 s12 s13
  go_region_held3 (fun wx => wx.cell? ⟨w.heap.size, 14, none⟩ = some (.int .i64 u.port)) (first | exact s14 | exact hS3 | exact hS4 | go_keep) (first
    | (go_at_call 27; (with_reducible refine (HI.out _ (bn12 HX.out (by first | exact HBc.out | exact HBc.out.drew))).mono ?_); rintro e w3 ⟨rfl, hb⟩; (first | have HBc := Lib.hid (bn12 HBc.out hb) | have HBc := Lib.hid (bng12 HBc.out hb)); (obtain ⟨_, _, _, _, _, _, _, _, _, _, _, _, _, hS3⟩ := HCs.out _ HBc.out); clear hb)
    | (go_at_call 17; (with_reducible refine (HO.out _ _ (by first | rfl | simp)).mono ?_); rintro e w4 ⟨rfl, hb⟩; (first | have HBc := Lib.hid (bn12 HBc.out hb) | have HBc := Lib.hid (bng12 HBc.out hb)); (obtain ⟨_, _, _, _, _, _, _, _, _, _, _, _, _, hS4⟩ := HCs.out _ HBc.out); clear hb))
  all_goals
    obtain ⟨s1, s2, s3, s4, s5, s6, s7, s8, s9, s10, s11, s12, s13, s14⟩ := HCs.out _ HBc.out
    go_wp2_with (first
      | (go_at_call 28; (with_reducible refine (HT.out _ (bn12 HX.out HBc.out)).mono ?_); rintro e w5 ⟨rfl, hb⟩; have HBc := Lib.hid (bn12 HBc.out hb); clear s1 s2 s3 s4 s5 s6 s7 s8 s9 s10 s11 s12 s13 s14; (obtain ⟨s1, s2, s3, s4, s5, s6, s7, s8, s9, s10, s11, s12, s13, s14⟩ := HCs.out _ HBc.out); clear hb)
      | (go_at_call 18; (with_reducible refine (HJ.out _ _ (by first | rfl | simp)).mono ?_); rintro e w6 ⟨rfl, hb⟩; have HBc := Lib.hid (bn12 HBc.out hb); clear s1 s2 s3 s4 s5 s6 s7 s8 s9 s10 s11 s12 s13 s14; (obtain ⟨s1, s2, s3, s4, s5, s6, s7, s8, s9, s10, s11, s12, s13, s14⟩ := HCs.out _ HBc.out); clear hb))
    go_ret
    exact ⟨rfl, bn12 HX.out HBc.out⟩
end Go.Proofs.YtliklhldlofnjaaDoor

/-
  The program's authority of layer 12, with a user (written by mkrecg.py).
-/
namespace Go.Proofs.YtliklhldlofnjaaDoor
open Go.RowKit

set_option maxHeartbeats 4000000 in
set_option maxRecDepth 100000 in
theorem auth12_Bny (u : Url12) (A : Option Addr) (n c : Nat) (w : World) (hw : Wee12 u) (hpw : Pow w) (h8 : V8 w) (hk : u.kind ≠ 0) (hu : (u.user.toList == []) = false) (hu2 : u.user ≠ ⟨#[]⟩) (hp : (u.pass.toList == []) = true) (hp2 : u.pass = ⟨#[]⟩) (h0 : 0 ≤ u.port) :
    Calls Tryd.prog 19 #[.agg #[.string u.scheme, .string u.user, .string u.pass, .int .i64 u.kind, .string u.name, .int .u32 (u.v4 : Int), .int .u16 (u.a0 : Int), .int .u16 (u.a1 : Int), .int .u16 (u.a2 : Int), .int .u16 (u.a3 : Int), .int .u16 (u.a4 : Int), .int .u16 (u.a5 : Int), .int .u16 (u.a6 : Int), .int .u16 (u.a7 : Int), .int .i64 u.port, .bool u.opaq, .slice A n c, .bool u.hasQ, .string u.query, .bool u.hasF, .string u.frag]] w (Txt12 (front12 u) w) := by
  obtain ⟨T, hT⟩ : ∃ T, txt10 (textK u.kind u.name.data.toList u.v4 u.v6) = T := ⟨_, rfl⟩
  obtain ⟨N, hN⟩ : ∃ N, txt10 (Lib.itoa u.port) = N := ⟨_, rfl⟩
  obtain ⟨tp, htp⟩ : ∃ t, txt10 (if false then (⟨#[58]⟩ : ByteArray).data.toList ++ u.pass.data.toList else []) = t := ⟨_, rfl⟩
  obtain ⟨tw, htw⟩ : ∃ t, txt10 (if true then u.user.data.toList ++ (tp.data.toList ++ (⟨#[64]⟩ : ByteArray).data.toList) else []) = t := ⟨_, rfl⟩
  obtain ⟨tt, htt⟩ : ∃ t, txt10 (if true then (⟨#[58]⟩ : ByteArray).data.toList ++ N.data.toList else []) = t := ⟨_, rfl⟩
  obtain ⟨R, hR⟩ : ∃ R, txt10 ((⟨#[47, 47]⟩ : ByteArray).data.toList ++ (tw.data.toList ++ (T.data.toList ++ tt.data.toList))) = R := ⟨_, rfl⟩
  have HF : Hid (txt10 (front12 u) = R) := by
    show _ = R
    rw [← hR]
    refine congrArg txt10 ?_
    unfold front12 cred12 port12
    rw [if_pos hk, ← htw, ← htp, ← hT, ← htt, ← hN]
    rw [itoa12_is h0]
    simp [hu2, hp2, h0, txt10_list]
  have z1 := hw.user; have z2 := hw.pass
  have zN : N.size ≤ 20 := by rw [← hN, txt10_size]; exact itoa12_len hw.nums.p0 hw.nums.p1
  have zT : T.size ≤ 200 := by rw [← hT, txt10_size]; exact textK_len (by have := hw.name; simpa using this) hw.nums.v4 rfl hw.nums.v6
  have q1 : (⟨#[58]⟩ : ByteArray).size = 1 := rfl
  have q2 : (⟨#[64]⟩ : ByteArray).size = 1 := rfl
  have q3 : (⟨#[47, 47]⟩ : ByteArray).size = 2 := rfl
  have zp : tp.size ≤ 201 := by rw [← htp, txt10_size]; simp; 
  have zw : tw.size ≤ 500 := by rw [← htw, txt10_size]; simp; omega
  have zt : tt.size ≤ 21 := by rw [← htt, txt10_size]; simp; omega
  have HP := Lib.hid (fun (W : World) (p : Nat) (hp : p = W.heap.size) => given_two false htp (by omega) 9 hp)
  have HW := Lib.hid (fun (W : World) (p : Nat) (hp : p = W.heap.size) => given_three true htw (by omega) 9 hp)
  have HO := Lib.hid (fun (W : World) (p : Nat) (hp : p = W.heap.size) => given_two true htt (by omega) 9 hp)
  have HJ := Lib.hid (fun (W : World) (p : Nat) (hp : p = W.heap.size) => join_four hR (by omega) 9 hp)
  have HI := Lib.hid (fun (W : World) (hb : Below w.heap.size w W) => itoa12_any hN hw.nums.p0 hw.nums.p1 W (hpw.below hb))
  have HT := Lib.hid (fun (W : World) (hb : Below w.heap.size w W) => ghtext12 hw.nums hT W (hpw.below hb) (h8.below hb))
  have HCs := Lib.hid (acells12 (w := w) (.string u.scheme) (.string u.user) (.string u.pass) (.int .i64 u.kind) (.string u.name) (.int .u32 (u.v4 : Int)) (.int .u16 (u.a0 : Int)) (.int .u16 (u.a1 : Int)) (.int .u16 (u.a2 : Int)) (.int .u16 (u.a3 : Int)) (.int .u16 (u.a4 : Int)) (.int .u16 (u.a5 : Int)) (.int .u16 (u.a6 : Int)) (.int .u16 (u.a7 : Int)) (.int .i64 u.port) (.bool u.opaq) (.slice A n c) (.bool u.hasQ) (.string u.query) (.bool u.hasF) (.string u.frag))
  have HX : Hid (Below w.heap.size w (w.alloc (.cells #[.string u.scheme, .string u.user, .string u.pass, .int .i64 u.kind, .string u.name, .int .u32 (u.v4 : Int), .int .u16 (u.a0 : Int), .int .u16 (u.a1 : Int), .int .u16 (u.a2 : Int), .int .u16 (u.a3 : Int), .int .u16 (u.a4 : Int), .int .u16 (u.a5 : Int), .int .u16 (u.a6 : Int), .int .u16 (u.a7 : Int), .int .i64 u.port, .bool u.opaq, .slice A n c, .bool u.hasQ, .string u.query, .bool u.hasF, .string u.frag] 29))) := bel12 _ _
  have HBc : Hid (Below (w.alloc (.cells #[.string u.scheme, .string u.user, .string u.pass, .int .i64 u.kind, .string u.name, .int .u32 (u.v4 : Int), .int .u16 (u.a0 : Int), .int .u16 (u.a1 : Int), .int .u16 (u.a2 : Int), .int .u16 (u.a3 : Int), .int .u16 (u.a4 : Int), .int .u16 (u.a5 : Int), .int .u16 (u.a6 : Int), .int .u16 (u.a7 : Int), .int .i64 u.port, .bool u.opaq, .slice A n c, .bool u.hasQ, .string u.query, .bool u.hasF, .string u.frag] 29)).heap.size (w.alloc (.cells #[.string u.scheme, .string u.user, .string u.pass, .int .i64 u.kind, .string u.name, .int .u32 (u.v4 : Int), .int .u16 (u.a0 : Int), .int .u16 (u.a1 : Int), .int .u16 (u.a2 : Int), .int .u16 (u.a3 : Int), .int .u16 (u.a4 : Int), .int .u16 (u.a5 : Int), .int .u16 (u.a6 : Int), .int .u16 (u.a7 : Int), .int .i64 u.port, .bool u.opaq, .slice A n c, .bool u.hasQ, .string u.query, .bool u.hasF, .string u.frag] 29)) (w.alloc (.cells #[.string u.scheme, .string u.user, .string u.pass, .int .i64 u.kind, .string u.name, .int .u32 (u.v4 : Int), .int .u16 (u.a0 : Int), .int .u16 (u.a1 : Int), .int .u16 (u.a2 : Int), .int .u16 (u.a3 : Int), .int .u16 (u.a4 : Int), .int .u16 (u.a5 : Int), .int .u16 (u.a6 : Int), .int .u16 (u.a7 : Int), .int .i64 u.port, .bool u.opaq, .slice A n c, .bool u.hasQ, .string u.query, .bool u.hasF, .string u.frag] 29))) := Below.refl _ _
  obtain ⟨s1, s2, s3, s4, s5, s6, s7, s8, s9, s10, s11, s12, s13, s14⟩ := HCs.out _ HBc.out
  have e1 : (u.kind == 0) = false := beq_eq_false_iff_ne.2 hk
  have e2 : decide ((0 : Int) ≤ u.port) = true := decide_eq_true h0
  unfold Txt12
  rw [HF.out]
  clear hT hN htp htw htt hR z1 z2 zN zT zp zw zt q1 q2 q3 hw hpw h8 hk hu2 hp2 h0 HF
  go_enter Tryd.func19, Tryd.ntmps19
  go_wp2_with (first
    | (go_at_call 17; (with_reducible refine (HP.out _ _ (by first | rfl | simp)).mono ?_); rintro e w1 ⟨rfl, hb⟩; have HBc := Lib.hid (bn12 HBc.out hb); clear s1 s2 s3 s4 s5 s6 s7 s8 s9 s10 s11 s12 s13 s14; (obtain ⟨s1, s2, s3, s4, s5, s6, s7, s8, s9, s10, s11, s12, s13, s14⟩ := HCs.out _ HBc.out); clear hb)
    | (go_at_call 17; (with_reducible refine (HW.out _ _ (by first | rfl | simp)).mono ?_); rintro e w2 ⟨rfl, hb⟩; have HBc := Lib.hid (bn12 HBc.out hb); clear s1 s2 s3 s4 s5 s6 s7 s8 s9 s10 s11 s12 s13 s14; (obtain ⟨s1, s2, s3, s4, s5, s6, s7, s8, s9, s10, s11, s12, s13, s14⟩ := HCs.out _ HBc.out); clear hb))
  clear s1 s2 s3 s4 s5 s6 s7 s8 s9 s10 s11 s12 s13
  go_region_held3 (fun wx => wx.cell? ⟨w.heap.size, 14, none⟩ = some (.int .i64 u.port)) (first | exact s14 | exact hS3 | exact hS4 | go_keep) (first
    | (go_at_call 27; (with_reducible refine (HI.out _ (bn12 HX.out (by first | exact HBc.out | exact HBc.out.drew))).mono ?_); rintro e w3 ⟨rfl, hb⟩; (first | have HBc := Lib.hid (bn12 HBc.out hb) | have HBc := Lib.hid (bng12 HBc.out hb)); (obtain ⟨_, _, _, _, _, _, _, _, _, _, _, _, _, hS3⟩ := HCs.out _ HBc.out); clear hb)
    | (go_at_call 17; (with_reducible refine (HO.out _ _ (by first | rfl | simp)).mono ?_); rintro e w4 ⟨rfl, hb⟩; (first | have HBc := Lib.hid (bn12 HBc.out hb) | have HBc := Lib.hid (bng12 HBc.out hb)); (obtain ⟨_, _, _, _, _, _, _, _, _, _, _, _, _, hS4⟩ := HCs.out _ HBc.out); clear hb))
  all_goals
    obtain ⟨s1, s2, s3, s4, s5, s6, s7, s8, s9, s10, s11, s12, s13, s14⟩ := HCs.out _ HBc.out
    go_wp2_with (first
      | (go_at_call 28; (with_reducible refine (HT.out _ (bn12 HX.out HBc.out)).mono ?_); rintro e w5 ⟨rfl, hb⟩; have HBc := Lib.hid (bn12 HBc.out hb); clear s1 s2 s3 s4 s5 s6 s7 s8 s9 s10 s11 s12 s13 s14; (obtain ⟨s1, s2, s3, s4, s5, s6, s7, s8, s9, s10, s11, s12, s13, s14⟩ := HCs.out _ HBc.out); clear hb)
      | (go_at_call 18; (with_reducible refine (HJ.out _ _ (by first | rfl | simp)).mono ?_); rintro e w6 ⟨rfl, hb⟩; have HBc := Lib.hid (bn12 HBc.out hb); clear s1 s2 s3 s4 s5 s6 s7 s8 s9 s10 s11 s12 s13 s14; (obtain ⟨s1, s2, s3, s4, s5, s6, s7, s8, s9, s10, s11, s12, s13, s14⟩ := HCs.out _ HBc.out); clear hb))
    go_ret
    exact ⟨rfl, bn12 HX.out HBc.out⟩

set_option maxHeartbeats 4000000 in
set_option maxRecDepth 100000 in
theorem auth12_Bnn (u : Url12) (A : Option Addr) (n c : Nat) (w : World) (hw : Wee12 u) (hpw : Pow w) (h8 : V8 w) (hk : u.kind ≠ 0) (hu : (u.user.toList == []) = false) (hu2 : u.user ≠ ⟨#[]⟩) (hp : (u.pass.toList == []) = true) (hp2 : u.pass = ⟨#[]⟩) (h0 : ¬ 0 ≤ u.port) :
    Calls Tryd.prog 19 #[.agg #[.string u.scheme, .string u.user, .string u.pass, .int .i64 u.kind, .string u.name, .int .u32 (u.v4 : Int), .int .u16 (u.a0 : Int), .int .u16 (u.a1 : Int), .int .u16 (u.a2 : Int), .int .u16 (u.a3 : Int), .int .u16 (u.a4 : Int), .int .u16 (u.a5 : Int), .int .u16 (u.a6 : Int), .int .u16 (u.a7 : Int), .int .i64 u.port, .bool u.opaq, .slice A n c, .bool u.hasQ, .string u.query, .bool u.hasF, .string u.frag]] w (Txt12 (front12 u) w) := by
  obtain ⟨T, hT⟩ : ∃ T, txt10 (textK u.kind u.name.data.toList u.v4 u.v6) = T := ⟨_, rfl⟩
  obtain ⟨N, hN⟩ : ∃ N, txt10 (Lib.itoa u.port) = N := ⟨_, rfl⟩
  obtain ⟨tp, htp⟩ : ∃ t, txt10 (if false then (⟨#[58]⟩ : ByteArray).data.toList ++ u.pass.data.toList else []) = t := ⟨_, rfl⟩
  obtain ⟨tw, htw⟩ : ∃ t, txt10 (if true then u.user.data.toList ++ (tp.data.toList ++ (⟨#[64]⟩ : ByteArray).data.toList) else []) = t := ⟨_, rfl⟩
  obtain ⟨tt, htt⟩ : ∃ t, txt10 (if false then (⟨#[58]⟩ : ByteArray).data.toList ++ N.data.toList else []) = t := ⟨_, rfl⟩
  obtain ⟨R, hR⟩ : ∃ R, txt10 ((⟨#[47, 47]⟩ : ByteArray).data.toList ++ (tw.data.toList ++ (T.data.toList ++ tt.data.toList))) = R := ⟨_, rfl⟩
  have HF : Hid (txt10 (front12 u) = R) := by
    show _ = R
    rw [← hR]
    refine congrArg txt10 ?_
    unfold front12 cred12 port12
    rw [if_pos hk, ← htw, ← htp, ← hT, ← htt, ← hN]
    skip
    simp [hu2, hp2, h0, txt10_list]
  have z1 := hw.user; have z2 := hw.pass
  have zN : N.size ≤ 20 := by rw [← hN, txt10_size]; exact itoa12_len hw.nums.p0 hw.nums.p1
  have zT : T.size ≤ 200 := by rw [← hT, txt10_size]; exact textK_len (by have := hw.name; simpa using this) hw.nums.v4 rfl hw.nums.v6
  have q1 : (⟨#[58]⟩ : ByteArray).size = 1 := rfl
  have q2 : (⟨#[64]⟩ : ByteArray).size = 1 := rfl
  have q3 : (⟨#[47, 47]⟩ : ByteArray).size = 2 := rfl
  have zp : tp.size ≤ 201 := by rw [← htp, txt10_size]; simp; 
  have zw : tw.size ≤ 500 := by rw [← htw, txt10_size]; simp; omega
  have zt : tt.size ≤ 21 := by rw [← htt, txt10_size]; simp; 
  have HP := Lib.hid (fun (W : World) (p : Nat) (hp : p = W.heap.size) => given_two false htp (by omega) 9 hp)
  have HW := Lib.hid (fun (W : World) (p : Nat) (hp : p = W.heap.size) => given_three true htw (by omega) 9 hp)
  have HO := Lib.hid (fun (W : World) (p : Nat) (hp : p = W.heap.size) => given_two false htt (by omega) 9 hp)
  have HJ := Lib.hid (fun (W : World) (p : Nat) (hp : p = W.heap.size) => join_four hR (by omega) 9 hp)
  have HI := Lib.hid (fun (W : World) (hb : Below w.heap.size w W) => itoa12_any hN hw.nums.p0 hw.nums.p1 W (hpw.below hb))
  have HT := Lib.hid (fun (W : World) (hb : Below w.heap.size w W) => ghtext12 hw.nums hT W (hpw.below hb) (h8.below hb))
  have HCs := Lib.hid (acells12 (w := w) (.string u.scheme) (.string u.user) (.string u.pass) (.int .i64 u.kind) (.string u.name) (.int .u32 (u.v4 : Int)) (.int .u16 (u.a0 : Int)) (.int .u16 (u.a1 : Int)) (.int .u16 (u.a2 : Int)) (.int .u16 (u.a3 : Int)) (.int .u16 (u.a4 : Int)) (.int .u16 (u.a5 : Int)) (.int .u16 (u.a6 : Int)) (.int .u16 (u.a7 : Int)) (.int .i64 u.port) (.bool u.opaq) (.slice A n c) (.bool u.hasQ) (.string u.query) (.bool u.hasF) (.string u.frag))
  have HX : Hid (Below w.heap.size w (w.alloc (.cells #[.string u.scheme, .string u.user, .string u.pass, .int .i64 u.kind, .string u.name, .int .u32 (u.v4 : Int), .int .u16 (u.a0 : Int), .int .u16 (u.a1 : Int), .int .u16 (u.a2 : Int), .int .u16 (u.a3 : Int), .int .u16 (u.a4 : Int), .int .u16 (u.a5 : Int), .int .u16 (u.a6 : Int), .int .u16 (u.a7 : Int), .int .i64 u.port, .bool u.opaq, .slice A n c, .bool u.hasQ, .string u.query, .bool u.hasF, .string u.frag] 29))) := bel12 _ _
  have HBc : Hid (Below (w.alloc (.cells #[.string u.scheme, .string u.user, .string u.pass, .int .i64 u.kind, .string u.name, .int .u32 (u.v4 : Int), .int .u16 (u.a0 : Int), .int .u16 (u.a1 : Int), .int .u16 (u.a2 : Int), .int .u16 (u.a3 : Int), .int .u16 (u.a4 : Int), .int .u16 (u.a5 : Int), .int .u16 (u.a6 : Int), .int .u16 (u.a7 : Int), .int .i64 u.port, .bool u.opaq, .slice A n c, .bool u.hasQ, .string u.query, .bool u.hasF, .string u.frag] 29)).heap.size (w.alloc (.cells #[.string u.scheme, .string u.user, .string u.pass, .int .i64 u.kind, .string u.name, .int .u32 (u.v4 : Int), .int .u16 (u.a0 : Int), .int .u16 (u.a1 : Int), .int .u16 (u.a2 : Int), .int .u16 (u.a3 : Int), .int .u16 (u.a4 : Int), .int .u16 (u.a5 : Int), .int .u16 (u.a6 : Int), .int .u16 (u.a7 : Int), .int .i64 u.port, .bool u.opaq, .slice A n c, .bool u.hasQ, .string u.query, .bool u.hasF, .string u.frag] 29)) (w.alloc (.cells #[.string u.scheme, .string u.user, .string u.pass, .int .i64 u.kind, .string u.name, .int .u32 (u.v4 : Int), .int .u16 (u.a0 : Int), .int .u16 (u.a1 : Int), .int .u16 (u.a2 : Int), .int .u16 (u.a3 : Int), .int .u16 (u.a4 : Int), .int .u16 (u.a5 : Int), .int .u16 (u.a6 : Int), .int .u16 (u.a7 : Int), .int .i64 u.port, .bool u.opaq, .slice A n c, .bool u.hasQ, .string u.query, .bool u.hasF, .string u.frag] 29))) := Below.refl _ _
  obtain ⟨s1, s2, s3, s4, s5, s6, s7, s8, s9, s10, s11, s12, s13, s14⟩ := HCs.out _ HBc.out
  have e1 : (u.kind == 0) = false := beq_eq_false_iff_ne.2 hk
  have e2 : decide ((0 : Int) ≤ u.port) = false := decide_eq_false h0
  unfold Txt12
  rw [HF.out]
  clear hT hN htp htw htt hR z1 z2 zN zT zp zw zt q1 q2 q3 hw hpw h8 hk hu2 hp2 h0 HF
  go_enter Tryd.func19, Tryd.ntmps19
  go_wp2_with (first
    | (go_at_call 17; (with_reducible refine (HP.out _ _ (by first | rfl | simp)).mono ?_); rintro e w1 ⟨rfl, hb⟩; have HBc := Lib.hid (bn12 HBc.out hb); clear s1 s2 s3 s4 s5 s6 s7 s8 s9 s10 s11 s12 s13 s14; (obtain ⟨s1, s2, s3, s4, s5, s6, s7, s8, s9, s10, s11, s12, s13, s14⟩ := HCs.out _ HBc.out); clear hb)
    | (go_at_call 17; (with_reducible refine (HW.out _ _ (by first | rfl | simp)).mono ?_); rintro e w2 ⟨rfl, hb⟩; have HBc := Lib.hid (bn12 HBc.out hb); clear s1 s2 s3 s4 s5 s6 s7 s8 s9 s10 s11 s12 s13 s14; (obtain ⟨s1, s2, s3, s4, s5, s6, s7, s8, s9, s10, s11, s12, s13, s14⟩ := HCs.out _ HBc.out); clear hb))
  clear s1 s2 s3 s4 s5 s6 s7 s8 s9 s10 s11 s12 s13
  go_region_held3 (fun wx => wx.cell? ⟨w.heap.size, 14, none⟩ = some (.int .i64 u.port)) (first | exact s14 | exact hS3 | exact hS4 | go_keep) (first
    | (go_at_call 27; (with_reducible refine (HI.out _ (bn12 HX.out (by first | exact HBc.out | exact HBc.out.drew))).mono ?_); rintro e w3 ⟨rfl, hb⟩; (first | have HBc := Lib.hid (bn12 HBc.out hb) | have HBc := Lib.hid (bng12 HBc.out hb)); (obtain ⟨_, _, _, _, _, _, _, _, _, _, _, _, _, hS3⟩ := HCs.out _ HBc.out); clear hb)
    | (go_at_call 17; (with_reducible refine (HO.out _ _ (by first | rfl | simp)).mono ?_); rintro e w4 ⟨rfl, hb⟩; (first | have HBc := Lib.hid (bn12 HBc.out hb) | have HBc := Lib.hid (bng12 HBc.out hb)); (obtain ⟨_, _, _, _, _, _, _, _, _, _, _, _, _, hS4⟩ := HCs.out _ HBc.out); clear hb))
  all_goals
    obtain ⟨s1, s2, s3, s4, s5, s6, s7, s8, s9, s10, s11, s12, s13, s14⟩ := HCs.out _ HBc.out
    go_wp2_with (first
      | (go_at_call 28; (with_reducible refine (HT.out _ (bn12 HX.out HBc.out)).mono ?_); rintro e w5 ⟨rfl, hb⟩; have HBc := Lib.hid (bn12 HBc.out hb); clear s1 s2 s3 s4 s5 s6 s7 s8 s9 s10 s11 s12 s13 s14; (obtain ⟨s1, s2, s3, s4, s5, s6, s7, s8, s9, s10, s11, s12, s13, s14⟩ := HCs.out _ HBc.out); clear hb)
      | (go_at_call 18; (with_reducible refine (HJ.out _ _ (by first | rfl | simp)).mono ?_); rintro e w6 ⟨rfl, hb⟩; have HBc := Lib.hid (bn12 HBc.out hb); clear s1 s2 s3 s4 s5 s6 s7 s8 s9 s10 s11 s12 s13 s14; (obtain ⟨s1, s2, s3, s4, s5, s6, s7, s8, s9, s10, s11, s12, s13, s14⟩ := HCs.out _ HBc.out); clear hb))
    go_ret
    exact ⟨rfl, bn12 HX.out HBc.out⟩

set_option maxHeartbeats 4000000 in
set_option maxRecDepth 100000 in
theorem auth12_Byy (u : Url12) (A : Option Addr) (n c : Nat) (w : World) (hw : Wee12 u) (hpw : Pow w) (h8 : V8 w) (hk : u.kind ≠ 0) (hu : (u.user.toList == []) = false) (hu2 : u.user ≠ ⟨#[]⟩) (hp : (u.pass.toList == []) = false) (hp2 : u.pass ≠ ⟨#[]⟩) (h0 : 0 ≤ u.port) :
    Calls Tryd.prog 19 #[.agg #[.string u.scheme, .string u.user, .string u.pass, .int .i64 u.kind, .string u.name, .int .u32 (u.v4 : Int), .int .u16 (u.a0 : Int), .int .u16 (u.a1 : Int), .int .u16 (u.a2 : Int), .int .u16 (u.a3 : Int), .int .u16 (u.a4 : Int), .int .u16 (u.a5 : Int), .int .u16 (u.a6 : Int), .int .u16 (u.a7 : Int), .int .i64 u.port, .bool u.opaq, .slice A n c, .bool u.hasQ, .string u.query, .bool u.hasF, .string u.frag]] w (Txt12 (front12 u) w) := by
  obtain ⟨T, hT⟩ : ∃ T, txt10 (textK u.kind u.name.data.toList u.v4 u.v6) = T := ⟨_, rfl⟩
  obtain ⟨N, hN⟩ : ∃ N, txt10 (Lib.itoa u.port) = N := ⟨_, rfl⟩
  obtain ⟨tp, htp⟩ : ∃ t, txt10 (if true then (⟨#[58]⟩ : ByteArray).data.toList ++ u.pass.data.toList else []) = t := ⟨_, rfl⟩
  obtain ⟨tw, htw⟩ : ∃ t, txt10 (if true then u.user.data.toList ++ (tp.data.toList ++ (⟨#[64]⟩ : ByteArray).data.toList) else []) = t := ⟨_, rfl⟩
  obtain ⟨tt, htt⟩ : ∃ t, txt10 (if true then (⟨#[58]⟩ : ByteArray).data.toList ++ N.data.toList else []) = t := ⟨_, rfl⟩
  obtain ⟨R, hR⟩ : ∃ R, txt10 ((⟨#[47, 47]⟩ : ByteArray).data.toList ++ (tw.data.toList ++ (T.data.toList ++ tt.data.toList))) = R := ⟨_, rfl⟩
  have HF : Hid (txt10 (front12 u) = R) := by
    show _ = R
    rw [← hR]
    refine congrArg txt10 ?_
    unfold front12 cred12 port12
    rw [if_pos hk, ← htw, ← htp, ← hT, ← htt, ← hN]
    rw [itoa12_is h0]
    simp [hu2, hp2, h0, txt10_list]
  have z1 := hw.user; have z2 := hw.pass
  have zN : N.size ≤ 20 := by rw [← hN, txt10_size]; exact itoa12_len hw.nums.p0 hw.nums.p1
  have zT : T.size ≤ 200 := by rw [← hT, txt10_size]; exact textK_len (by have := hw.name; simpa using this) hw.nums.v4 rfl hw.nums.v6
  have q1 : (⟨#[58]⟩ : ByteArray).size = 1 := rfl
  have q2 : (⟨#[64]⟩ : ByteArray).size = 1 := rfl
  have q3 : (⟨#[47, 47]⟩ : ByteArray).size = 2 := rfl
  have zp : tp.size ≤ 201 := by rw [← htp, txt10_size]; simp; omega
  have zw : tw.size ≤ 500 := by rw [← htw, txt10_size]; simp; omega
  have zt : tt.size ≤ 21 := by rw [← htt, txt10_size]; simp; omega
  have HP := Lib.hid (fun (W : World) (p : Nat) (hp : p = W.heap.size) => given_two true htp (by omega) 9 hp)
  have HW := Lib.hid (fun (W : World) (p : Nat) (hp : p = W.heap.size) => given_three true htw (by omega) 9 hp)
  have HO := Lib.hid (fun (W : World) (p : Nat) (hp : p = W.heap.size) => given_two true htt (by omega) 9 hp)
  have HJ := Lib.hid (fun (W : World) (p : Nat) (hp : p = W.heap.size) => join_four hR (by omega) 9 hp)
  have HI := Lib.hid (fun (W : World) (hb : Below w.heap.size w W) => itoa12_any hN hw.nums.p0 hw.nums.p1 W (hpw.below hb))
  have HT := Lib.hid (fun (W : World) (hb : Below w.heap.size w W) => ghtext12 hw.nums hT W (hpw.below hb) (h8.below hb))
  have HCs := Lib.hid (acells12 (w := w) (.string u.scheme) (.string u.user) (.string u.pass) (.int .i64 u.kind) (.string u.name) (.int .u32 (u.v4 : Int)) (.int .u16 (u.a0 : Int)) (.int .u16 (u.a1 : Int)) (.int .u16 (u.a2 : Int)) (.int .u16 (u.a3 : Int)) (.int .u16 (u.a4 : Int)) (.int .u16 (u.a5 : Int)) (.int .u16 (u.a6 : Int)) (.int .u16 (u.a7 : Int)) (.int .i64 u.port) (.bool u.opaq) (.slice A n c) (.bool u.hasQ) (.string u.query) (.bool u.hasF) (.string u.frag))
  have HX : Hid (Below w.heap.size w (w.alloc (.cells #[.string u.scheme, .string u.user, .string u.pass, .int .i64 u.kind, .string u.name, .int .u32 (u.v4 : Int), .int .u16 (u.a0 : Int), .int .u16 (u.a1 : Int), .int .u16 (u.a2 : Int), .int .u16 (u.a3 : Int), .int .u16 (u.a4 : Int), .int .u16 (u.a5 : Int), .int .u16 (u.a6 : Int), .int .u16 (u.a7 : Int), .int .i64 u.port, .bool u.opaq, .slice A n c, .bool u.hasQ, .string u.query, .bool u.hasF, .string u.frag] 29))) := bel12 _ _
  have HBc : Hid (Below (w.alloc (.cells #[.string u.scheme, .string u.user, .string u.pass, .int .i64 u.kind, .string u.name, .int .u32 (u.v4 : Int), .int .u16 (u.a0 : Int), .int .u16 (u.a1 : Int), .int .u16 (u.a2 : Int), .int .u16 (u.a3 : Int), .int .u16 (u.a4 : Int), .int .u16 (u.a5 : Int), .int .u16 (u.a6 : Int), .int .u16 (u.a7 : Int), .int .i64 u.port, .bool u.opaq, .slice A n c, .bool u.hasQ, .string u.query, .bool u.hasF, .string u.frag] 29)).heap.size (w.alloc (.cells #[.string u.scheme, .string u.user, .string u.pass, .int .i64 u.kind, .string u.name, .int .u32 (u.v4 : Int), .int .u16 (u.a0 : Int), .int .u16 (u.a1 : Int), .int .u16 (u.a2 : Int), .int .u16 (u.a3 : Int), .int .u16 (u.a4 : Int), .int .u16 (u.a5 : Int), .int .u16 (u.a6 : Int), .int .u16 (u.a7 : Int), .int .i64 u.port, .bool u.opaq, .slice A n c, .bool u.hasQ, .string u.query, .bool u.hasF, .string u.frag] 29)) (w.alloc (.cells #[.string u.scheme, .string u.user, .string u.pass, .int .i64 u.kind, .string u.name, .int .u32 (u.v4 : Int), .int .u16 (u.a0 : Int), .int .u16 (u.a1 : Int), .int .u16 (u.a2 : Int), .int .u16 (u.a3 : Int), .int .u16 (u.a4 : Int), .int .u16 (u.a5 : Int), .int .u16 (u.a6 : Int), .int .u16 (u.a7 : Int), .int .i64 u.port, .bool u.opaq, .slice A n c, .bool u.hasQ, .string u.query, .bool u.hasF, .string u.frag] 29))) := Below.refl _ _
  obtain ⟨s1, s2, s3, s4, s5, s6, s7, s8, s9, s10, s11, s12, s13, s14⟩ := HCs.out _ HBc.out
  have e1 : (u.kind == 0) = false := beq_eq_false_iff_ne.2 hk
  have e2 : decide ((0 : Int) ≤ u.port) = true := decide_eq_true h0
  unfold Txt12
  rw [HF.out]
  clear hT hN htp htw htt hR z1 z2 zN zT zp zw zt q1 q2 q3 hw hpw h8 hk hu2 hp2 h0 HF
  go_enter Tryd.func19, Tryd.ntmps19
  go_wp2_with (first
    | (go_at_call 17; (with_reducible refine (HP.out _ _ (by first | rfl | simp)).mono ?_); rintro e w1 ⟨rfl, hb⟩; have HBc := Lib.hid (bn12 HBc.out hb); clear s1 s2 s3 s4 s5 s6 s7 s8 s9 s10 s11 s12 s13 s14; (obtain ⟨s1, s2, s3, s4, s5, s6, s7, s8, s9, s10, s11, s12, s13, s14⟩ := HCs.out _ HBc.out); clear hb)
    | (go_at_call 17; (with_reducible refine (HW.out _ _ (by first | rfl | simp)).mono ?_); rintro e w2 ⟨rfl, hb⟩; have HBc := Lib.hid (bn12 HBc.out hb); clear s1 s2 s3 s4 s5 s6 s7 s8 s9 s10 s11 s12 s13 s14; (obtain ⟨s1, s2, s3, s4, s5, s6, s7, s8, s9, s10, s11, s12, s13, s14⟩ := HCs.out _ HBc.out); clear hb))
  clear s1 s2 s3 s4 s5 s6 s7 s8 s9 s10 s11 s12 s13
  go_region_held3 (fun wx => wx.cell? ⟨w.heap.size, 14, none⟩ = some (.int .i64 u.port)) (first | exact s14 | exact hS3 | exact hS4 | go_keep) (first
    | (go_at_call 27; (with_reducible refine (HI.out _ (bn12 HX.out (by first | exact HBc.out | exact HBc.out.drew))).mono ?_); rintro e w3 ⟨rfl, hb⟩; (first | have HBc := Lib.hid (bn12 HBc.out hb) | have HBc := Lib.hid (bng12 HBc.out hb)); (obtain ⟨_, _, _, _, _, _, _, _, _, _, _, _, _, hS3⟩ := HCs.out _ HBc.out); clear hb)
    | (go_at_call 17; (with_reducible refine (HO.out _ _ (by first | rfl | simp)).mono ?_); rintro e w4 ⟨rfl, hb⟩; (first | have HBc := Lib.hid (bn12 HBc.out hb) | have HBc := Lib.hid (bng12 HBc.out hb)); (obtain ⟨_, _, _, _, _, _, _, _, _, _, _, _, _, hS4⟩ := HCs.out _ HBc.out); clear hb))
  all_goals
    obtain ⟨s1, s2, s3, s4, s5, s6, s7, s8, s9, s10, s11, s12, s13, s14⟩ := HCs.out _ HBc.out
    go_wp2_with (first
      | (go_at_call 28; (with_reducible refine (HT.out _ (bn12 HX.out HBc.out)).mono ?_); rintro e w5 ⟨rfl, hb⟩; have HBc := Lib.hid (bn12 HBc.out hb); clear s1 s2 s3 s4 s5 s6 s7 s8 s9 s10 s11 s12 s13 s14; (obtain ⟨s1, s2, s3, s4, s5, s6, s7, s8, s9, s10, s11, s12, s13, s14⟩ := HCs.out _ HBc.out); clear hb)
      | (go_at_call 18; (with_reducible refine (HJ.out _ _ (by first | rfl | simp)).mono ?_); rintro e w6 ⟨rfl, hb⟩; have HBc := Lib.hid (bn12 HBc.out hb); clear s1 s2 s3 s4 s5 s6 s7 s8 s9 s10 s11 s12 s13 s14; (obtain ⟨s1, s2, s3, s4, s5, s6, s7, s8, s9, s10, s11, s12, s13, s14⟩ := HCs.out _ HBc.out); clear hb))
    go_ret
    exact ⟨rfl, bn12 HX.out HBc.out⟩

set_option maxHeartbeats 4000000 in
set_option maxRecDepth 100000 in
theorem auth12_Byn (u : Url12) (A : Option Addr) (n c : Nat) (w : World) (hw : Wee12 u) (hpw : Pow w) (h8 : V8 w) (hk : u.kind ≠ 0) (hu : (u.user.toList == []) = false) (hu2 : u.user ≠ ⟨#[]⟩) (hp : (u.pass.toList == []) = false) (hp2 : u.pass ≠ ⟨#[]⟩) (h0 : ¬ 0 ≤ u.port) :
    Calls Tryd.prog 19 #[.agg #[.string u.scheme, .string u.user, .string u.pass, .int .i64 u.kind, .string u.name, .int .u32 (u.v4 : Int), .int .u16 (u.a0 : Int), .int .u16 (u.a1 : Int), .int .u16 (u.a2 : Int), .int .u16 (u.a3 : Int), .int .u16 (u.a4 : Int), .int .u16 (u.a5 : Int), .int .u16 (u.a6 : Int), .int .u16 (u.a7 : Int), .int .i64 u.port, .bool u.opaq, .slice A n c, .bool u.hasQ, .string u.query, .bool u.hasF, .string u.frag]] w (Txt12 (front12 u) w) := by
  obtain ⟨T, hT⟩ : ∃ T, txt10 (textK u.kind u.name.data.toList u.v4 u.v6) = T := ⟨_, rfl⟩
  obtain ⟨N, hN⟩ : ∃ N, txt10 (Lib.itoa u.port) = N := ⟨_, rfl⟩
  obtain ⟨tp, htp⟩ : ∃ t, txt10 (if true then (⟨#[58]⟩ : ByteArray).data.toList ++ u.pass.data.toList else []) = t := ⟨_, rfl⟩
  obtain ⟨tw, htw⟩ : ∃ t, txt10 (if true then u.user.data.toList ++ (tp.data.toList ++ (⟨#[64]⟩ : ByteArray).data.toList) else []) = t := ⟨_, rfl⟩
  obtain ⟨tt, htt⟩ : ∃ t, txt10 (if false then (⟨#[58]⟩ : ByteArray).data.toList ++ N.data.toList else []) = t := ⟨_, rfl⟩
  obtain ⟨R, hR⟩ : ∃ R, txt10 ((⟨#[47, 47]⟩ : ByteArray).data.toList ++ (tw.data.toList ++ (T.data.toList ++ tt.data.toList))) = R := ⟨_, rfl⟩
  have HF : Hid (txt10 (front12 u) = R) := by
    show _ = R
    rw [← hR]
    refine congrArg txt10 ?_
    unfold front12 cred12 port12
    rw [if_pos hk, ← htw, ← htp, ← hT, ← htt, ← hN]
    skip
    simp [hu2, hp2, h0, txt10_list]
  have z1 := hw.user; have z2 := hw.pass
  have zN : N.size ≤ 20 := by rw [← hN, txt10_size]; exact itoa12_len hw.nums.p0 hw.nums.p1
  have zT : T.size ≤ 200 := by rw [← hT, txt10_size]; exact textK_len (by have := hw.name; simpa using this) hw.nums.v4 rfl hw.nums.v6
  have q1 : (⟨#[58]⟩ : ByteArray).size = 1 := rfl
  have q2 : (⟨#[64]⟩ : ByteArray).size = 1 := rfl
  have q3 : (⟨#[47, 47]⟩ : ByteArray).size = 2 := rfl
  have zp : tp.size ≤ 201 := by rw [← htp, txt10_size]; simp; omega
  have zw : tw.size ≤ 500 := by rw [← htw, txt10_size]; simp; omega
  have zt : tt.size ≤ 21 := by rw [← htt, txt10_size]; simp; 
  have HP := Lib.hid (fun (W : World) (p : Nat) (hp : p = W.heap.size) => given_two true htp (by omega) 9 hp)
  have HW := Lib.hid (fun (W : World) (p : Nat) (hp : p = W.heap.size) => given_three true htw (by omega) 9 hp)
  have HO := Lib.hid (fun (W : World) (p : Nat) (hp : p = W.heap.size) => given_two false htt (by omega) 9 hp)
  have HJ := Lib.hid (fun (W : World) (p : Nat) (hp : p = W.heap.size) => join_four hR (by omega) 9 hp)
  have HI := Lib.hid (fun (W : World) (hb : Below w.heap.size w W) => itoa12_any hN hw.nums.p0 hw.nums.p1 W (hpw.below hb))
  have HT := Lib.hid (fun (W : World) (hb : Below w.heap.size w W) => ghtext12 hw.nums hT W (hpw.below hb) (h8.below hb))
  have HCs := Lib.hid (acells12 (w := w) (.string u.scheme) (.string u.user) (.string u.pass) (.int .i64 u.kind) (.string u.name) (.int .u32 (u.v4 : Int)) (.int .u16 (u.a0 : Int)) (.int .u16 (u.a1 : Int)) (.int .u16 (u.a2 : Int)) (.int .u16 (u.a3 : Int)) (.int .u16 (u.a4 : Int)) (.int .u16 (u.a5 : Int)) (.int .u16 (u.a6 : Int)) (.int .u16 (u.a7 : Int)) (.int .i64 u.port) (.bool u.opaq) (.slice A n c) (.bool u.hasQ) (.string u.query) (.bool u.hasF) (.string u.frag))
  have HX : Hid (Below w.heap.size w (w.alloc (.cells #[.string u.scheme, .string u.user, .string u.pass, .int .i64 u.kind, .string u.name, .int .u32 (u.v4 : Int), .int .u16 (u.a0 : Int), .int .u16 (u.a1 : Int), .int .u16 (u.a2 : Int), .int .u16 (u.a3 : Int), .int .u16 (u.a4 : Int), .int .u16 (u.a5 : Int), .int .u16 (u.a6 : Int), .int .u16 (u.a7 : Int), .int .i64 u.port, .bool u.opaq, .slice A n c, .bool u.hasQ, .string u.query, .bool u.hasF, .string u.frag] 29))) := bel12 _ _
  have HBc : Hid (Below (w.alloc (.cells #[.string u.scheme, .string u.user, .string u.pass, .int .i64 u.kind, .string u.name, .int .u32 (u.v4 : Int), .int .u16 (u.a0 : Int), .int .u16 (u.a1 : Int), .int .u16 (u.a2 : Int), .int .u16 (u.a3 : Int), .int .u16 (u.a4 : Int), .int .u16 (u.a5 : Int), .int .u16 (u.a6 : Int), .int .u16 (u.a7 : Int), .int .i64 u.port, .bool u.opaq, .slice A n c, .bool u.hasQ, .string u.query, .bool u.hasF, .string u.frag] 29)).heap.size (w.alloc (.cells #[.string u.scheme, .string u.user, .string u.pass, .int .i64 u.kind, .string u.name, .int .u32 (u.v4 : Int), .int .u16 (u.a0 : Int), .int .u16 (u.a1 : Int), .int .u16 (u.a2 : Int), .int .u16 (u.a3 : Int), .int .u16 (u.a4 : Int), .int .u16 (u.a5 : Int), .int .u16 (u.a6 : Int), .int .u16 (u.a7 : Int), .int .i64 u.port, .bool u.opaq, .slice A n c, .bool u.hasQ, .string u.query, .bool u.hasF, .string u.frag] 29)) (w.alloc (.cells #[.string u.scheme, .string u.user, .string u.pass, .int .i64 u.kind, .string u.name, .int .u32 (u.v4 : Int), .int .u16 (u.a0 : Int), .int .u16 (u.a1 : Int), .int .u16 (u.a2 : Int), .int .u16 (u.a3 : Int), .int .u16 (u.a4 : Int), .int .u16 (u.a5 : Int), .int .u16 (u.a6 : Int), .int .u16 (u.a7 : Int), .int .i64 u.port, .bool u.opaq, .slice A n c, .bool u.hasQ, .string u.query, .bool u.hasF, .string u.frag] 29))) := Below.refl _ _
  obtain ⟨s1, s2, s3, s4, s5, s6, s7, s8, s9, s10, s11, s12, s13, s14⟩ := HCs.out _ HBc.out
  have e1 : (u.kind == 0) = false := beq_eq_false_iff_ne.2 hk
  have e2 : decide ((0 : Int) ≤ u.port) = false := decide_eq_false h0
  unfold Txt12
  rw [HF.out]
  clear hT hN htp htw htt hR z1 z2 zN zT zp zw zt q1 q2 q3 hw hpw h8 hk hu2 hp2 h0 HF
  go_enter Tryd.func19, Tryd.ntmps19
  go_wp2_with (first
    | (go_at_call 17; (with_reducible refine (HP.out _ _ (by first | rfl | simp)).mono ?_); rintro e w1 ⟨rfl, hb⟩; have HBc := Lib.hid (bn12 HBc.out hb); clear s1 s2 s3 s4 s5 s6 s7 s8 s9 s10 s11 s12 s13 s14; (obtain ⟨s1, s2, s3, s4, s5, s6, s7, s8, s9, s10, s11, s12, s13, s14⟩ := HCs.out _ HBc.out); clear hb)
    | (go_at_call 17; (with_reducible refine (HW.out _ _ (by first | rfl | simp)).mono ?_); rintro e w2 ⟨rfl, hb⟩; have HBc := Lib.hid (bn12 HBc.out hb); clear s1 s2 s3 s4 s5 s6 s7 s8 s9 s10 s11 s12 s13 s14; (obtain ⟨s1, s2, s3, s4, s5, s6, s7, s8, s9, s10, s11, s12, s13, s14⟩ := HCs.out _ HBc.out); clear hb))
  clear s1 s2 s3 s4 s5 s6 s7 s8 s9 s10 s11 s12 s13
  go_region_held3 (fun wx => wx.cell? ⟨w.heap.size, 14, none⟩ = some (.int .i64 u.port)) (first | exact s14 | exact hS3 | exact hS4 | go_keep) (first
    | (go_at_call 27; (with_reducible refine (HI.out _ (bn12 HX.out (by first | exact HBc.out | exact HBc.out.drew))).mono ?_); rintro e w3 ⟨rfl, hb⟩; (first | have HBc := Lib.hid (bn12 HBc.out hb) | have HBc := Lib.hid (bng12 HBc.out hb)); (obtain ⟨_, _, _, _, _, _, _, _, _, _, _, _, _, hS3⟩ := HCs.out _ HBc.out); clear hb)
    | (go_at_call 17; (with_reducible refine (HO.out _ _ (by first | rfl | simp)).mono ?_); rintro e w4 ⟨rfl, hb⟩; (first | have HBc := Lib.hid (bn12 HBc.out hb) | have HBc := Lib.hid (bng12 HBc.out hb)); (obtain ⟨_, _, _, _, _, _, _, _, _, _, _, _, _, hS4⟩ := HCs.out _ HBc.out); clear hb))
  all_goals
    obtain ⟨s1, s2, s3, s4, s5, s6, s7, s8, s9, s10, s11, s12, s13, s14⟩ := HCs.out _ HBc.out
    go_wp2_with (first
      | (go_at_call 28; (with_reducible refine (HT.out _ (bn12 HX.out HBc.out)).mono ?_); rintro e w5 ⟨rfl, hb⟩; have HBc := Lib.hid (bn12 HBc.out hb); clear s1 s2 s3 s4 s5 s6 s7 s8 s9 s10 s11 s12 s13 s14; (obtain ⟨s1, s2, s3, s4, s5, s6, s7, s8, s9, s10, s11, s12, s13, s14⟩ := HCs.out _ HBc.out); clear hb)
      | (go_at_call 18; (with_reducible refine (HJ.out _ _ (by first | rfl | simp)).mono ?_); rintro e w6 ⟨rfl, hb⟩; have HBc := Lib.hid (bn12 HBc.out hb); clear s1 s2 s3 s4 s5 s6 s7 s8 s9 s10 s11 s12 s13 s14; (obtain ⟨s1, s2, s3, s4, s5, s6, s7, s8, s9, s10, s11, s12, s13, s14⟩ := HCs.out _ HBc.out); clear hb))
    go_ret
    exact ⟨rfl, bn12 HX.out HBc.out⟩
end Go.Proofs.YtliklhldlofnjaaDoor

/-
  The program's authority of layer 12, without a host; whatever the URL (written by mkrecg.py).
-/
namespace Go.Proofs.YtliklhldlofnjaaDoor
open Go.RowKit

set_option maxHeartbeats 4000000 in
set_option maxRecDepth 100000 in
theorem auth12_o (u : Url12) (A : Option Addr) (n c : Nat) (hn : u.path.length = n) (w : World) (_ : Segs w A u.path) (hw : Wee12 u) (hk : u.kind = 0) (ho : u.opaq = true) :
    Calls Tryd.prog 19 #[.agg #[.string u.scheme, .string u.user, .string u.pass, .int .i64 u.kind, .string u.name, .int .u32 (u.v4 : Int), .int .u16 (u.a0 : Int), .int .u16 (u.a1 : Int), .int .u16 (u.a2 : Int), .int .u16 (u.a3 : Int), .int .u16 (u.a4 : Int), .int .u16 (u.a5 : Int), .int .u16 (u.a6 : Int), .int .u16 (u.a7 : Int), .int .i64 u.port, .bool u.opaq, .slice A n c, .bool u.hasQ, .string u.query, .bool u.hasF, .string u.frag]] w (Txt12 (front12 u) w) := by
  have hF : txt10 (front12 u) = ⟨#[]⟩ := by (show txt10 (front12 u) = txt10 []; refine congrArg txt10 ?_; unfold front12; rw [if_neg (by rw [hk]; simp)]; unfold dotted12; rw [ho]; rfl)
  unfold Txt12
  rw [hF, ho]
  have e1 : (u.kind == 0) = true := beq_iff_eq.2 hk
  have hn50 : n ≤ 50 := by have := hw.len; omega
  have HG := Lib.hid (fun (W : World) (p : Nat) (hp : p = W.heap.size) => given_one false (x := ⟨#[47, 46]⟩) (t := ⟨#[]⟩) rfl (Nat.le_of_ble_eq_true rfl) 9 hp)
  have HX : Hid (Below w.heap.size w (w.alloc (.cells #[.string u.scheme, .string u.user, .string u.pass, .int .i64 u.kind, .string u.name, .int .u32 (u.v4 : Int), .int .u16 (u.a0 : Int), .int .u16 (u.a1 : Int), .int .u16 (u.a2 : Int), .int .u16 (u.a3 : Int), .int .u16 (u.a4 : Int), .int .u16 (u.a5 : Int), .int .u16 (u.a6 : Int), .int .u16 (u.a7 : Int), .int .i64 u.port, .bool true, .slice A n c, .bool u.hasQ, .string u.query, .bool u.hasF, .string u.frag] 29))) := bel12 _ _
  clear hw hn hk ho hF
  go_enter Tryd.func19, Tryd.ntmps19
  go_wp2_with (go_at_call 17; (with_reducible refine (HG.out _ _ (by first | rfl | simp)).mono ?_); rintro e w1 ⟨rfl, hb⟩; have HB := Lib.hid (bn12 HX.out hb); clear hb)
  go_ret
  exact ⟨rfl, HB.out⟩

set_option maxHeartbeats 4000000 in
set_option maxRecDepth 100000 in
theorem auth12_s (u : Url12) (A : Option Addr) (n c : Nat) (hn : u.path.length = n) (w : World) (_ : Segs w A u.path) (hw : Wee12 u) (hk : u.kind = 0) (ho : u.opaq = false) (h1 : n ≤ 1) :
    Calls Tryd.prog 19 #[.agg #[.string u.scheme, .string u.user, .string u.pass, .int .i64 u.kind, .string u.name, .int .u32 (u.v4 : Int), .int .u16 (u.a0 : Int), .int .u16 (u.a1 : Int), .int .u16 (u.a2 : Int), .int .u16 (u.a3 : Int), .int .u16 (u.a4 : Int), .int .u16 (u.a5 : Int), .int .u16 (u.a6 : Int), .int .u16 (u.a7 : Int), .int .i64 u.port, .bool u.opaq, .slice A n c, .bool u.hasQ, .string u.query, .bool u.hasF, .string u.frag]] w (Txt12 (front12 u) w) := by
  have hF : txt10 (front12 u) = ⟨#[]⟩ := by (show txt10 (front12 u) = txt10 []; refine congrArg txt10 ?_; unfold front12; rw [if_neg (by rw [hk]; simp)]; unfold dotted12; rw [ho, decide_eq_false (show ¬ 1 < u.path.length by omega)]; rfl)
  unfold Txt12
  rw [hF, ho]
  have e1 : (u.kind == 0) = true := beq_iff_eq.2 hk
  have hn50 : n ≤ 50 := by have := hw.len; omega
  have d1 : decide ((1 : Int) < (n : Int)) = false := decide_eq_false (by omega)
  have HG := Lib.hid (fun (W : World) (p : Nat) (hp : p = W.heap.size) => given_one false (x := ⟨#[47, 46]⟩) (t := ⟨#[]⟩) rfl (Nat.le_of_ble_eq_true rfl) 9 hp)
  have HX : Hid (Below w.heap.size w (w.alloc (.cells #[.string u.scheme, .string u.user, .string u.pass, .int .i64 u.kind, .string u.name, .int .u32 (u.v4 : Int), .int .u16 (u.a0 : Int), .int .u16 (u.a1 : Int), .int .u16 (u.a2 : Int), .int .u16 (u.a3 : Int), .int .u16 (u.a4 : Int), .int .u16 (u.a5 : Int), .int .u16 (u.a6 : Int), .int .u16 (u.a7 : Int), .int .i64 u.port, .bool false, .slice A n c, .bool u.hasQ, .string u.query, .bool u.hasF, .string u.frag] 29))) := bel12 _ _
  clear hw hn hk ho hF
  go_enter Tryd.func19, Tryd.ntmps19
  go_wp2_with (go_at_call 17; (with_reducible refine (HG.out _ _ (by first | rfl | simp)).mono ?_); rintro e w1 ⟨rfl, hb⟩; have HB := Lib.hid (bn12 HX.out hb); clear hb)
  go_ret
  exact ⟨rfl, HB.out⟩

set_option maxHeartbeats 4000000 in
set_option maxRecDepth 100000 in
theorem auth12_e (u : Url12) (A : Option Addr) (n c : Nat) (hn : u.path.length = n) (w : World) (h : Segs w A u.path) (hw : Wee12 u) (hk : u.kind = 0) (ho : u.opaq = false) (p : Seg) (ps : List Seg) (hp : u.path = p :: ps) (hpe : p = []) (h1 : 1 < n) :
    Calls Tryd.prog 19 #[.agg #[.string u.scheme, .string u.user, .string u.pass, .int .i64 u.kind, .string u.name, .int .u32 (u.v4 : Int), .int .u16 (u.a0 : Int), .int .u16 (u.a1 : Int), .int .u16 (u.a2 : Int), .int .u16 (u.a3 : Int), .int .u16 (u.a4 : Int), .int .u16 (u.a5 : Int), .int .u16 (u.a6 : Int), .int .u16 (u.a7 : Int), .int .i64 u.port, .bool u.opaq, .slice A n c, .bool u.hasQ, .string u.query, .bool u.hasF, .string u.frag]] w (Txt12 (front12 u) w) := by
  have hF : txt10 (front12 u) = ⟨#[47, 46]⟩ := by (show txt10 (front12 u) = txt10 [47, 46]; refine congrArg txt10 ?_; unfold front12; rw [if_neg (by rw [hk]; simp)]; unfold dotted12; rw [ho, decide_eq_true (show 1 < u.path.length by omega), hp, hpe]; rfl)
  unfold Txt12
  rw [hF, ho]
  have e1 : (u.kind == 0) = true := beq_iff_eq.2 hk
  have hn50 : n ≤ 50 := by have := hw.len; omega
  have d1 : decide ((1 : Int) < (n : Int)) = true := decide_eq_true (by omega)
  rw [hp] at h
  obtain ⟨b, off, rfl, hb, hc⟩ := h.first
  have hc1 := hc _ (bel12 w (.cells #[.string u.scheme, .string u.user, .string u.pass, .int .i64 u.kind, .string u.name, .int .u32 (u.v4 : Int), .int .u16 (u.a0 : Int), .int .u16 (u.a1 : Int), .int .u16 (u.a2 : Int), .int .u16 (u.a3 : Int), .int .u16 (u.a4 : Int), .int .u16 (u.a5 : Int), .int .u16 (u.a6 : Int), .int .u16 (u.a7 : Int), .int .i64 u.port, .bool false, .slice (some ⟨b, off, none⟩) n c, .bool u.hasQ, .string u.query, .bool u.hasF, .string u.frag] 29))
  have hpt : ((txt10 p).toList == []) = true := by rw [beq_iff_eq, ByteArray.toList_eq]; exact hpe
  have hn0 : 0 < n := by omega
  clear hc
  have HG := Lib.hid (fun (W : World) (p : Nat) (hp : p = W.heap.size) => given_one true (x := ⟨#[47, 46]⟩) (t := ⟨#[47, 46]⟩) rfl (Nat.le_of_ble_eq_true rfl) 9 hp)
  have HX : Hid (Below w.heap.size w (w.alloc (.cells #[.string u.scheme, .string u.user, .string u.pass, .int .i64 u.kind, .string u.name, .int .u32 (u.v4 : Int), .int .u16 (u.a0 : Int), .int .u16 (u.a1 : Int), .int .u16 (u.a2 : Int), .int .u16 (u.a3 : Int), .int .u16 (u.a4 : Int), .int .u16 (u.a5 : Int), .int .u16 (u.a6 : Int), .int .u16 (u.a7 : Int), .int .i64 u.port, .bool false, .slice (some ⟨b, off, none⟩) n c, .bool u.hasQ, .string u.query, .bool u.hasF, .string u.frag] 29))) := bel12 _ _
  clear hw hn hk ho hF h hpe hp
  go_enter Tryd.func19, Tryd.ntmps19
  go_wp2_with (go_at_call 17; (with_reducible refine (HG.out _ _ (by first | rfl | simp)).mono ?_); rintro e w1 ⟨rfl, hb⟩; have HB := Lib.hid (bn12 HX.out hb); clear hb)
  go_ret
  exact ⟨rfl, HB.out⟩

set_option maxHeartbeats 4000000 in
set_option maxRecDepth 100000 in
theorem auth12_f (u : Url12) (A : Option Addr) (n c : Nat) (hn : u.path.length = n) (w : World) (h : Segs w A u.path) (hw : Wee12 u) (hk : u.kind = 0) (ho : u.opaq = false) (p : Seg) (ps : List Seg) (hp : u.path = p :: ps) (hpe : p ≠ []) (h1 : 1 < n) :
    Calls Tryd.prog 19 #[.agg #[.string u.scheme, .string u.user, .string u.pass, .int .i64 u.kind, .string u.name, .int .u32 (u.v4 : Int), .int .u16 (u.a0 : Int), .int .u16 (u.a1 : Int), .int .u16 (u.a2 : Int), .int .u16 (u.a3 : Int), .int .u16 (u.a4 : Int), .int .u16 (u.a5 : Int), .int .u16 (u.a6 : Int), .int .u16 (u.a7 : Int), .int .i64 u.port, .bool u.opaq, .slice A n c, .bool u.hasQ, .string u.query, .bool u.hasF, .string u.frag]] w (Txt12 (front12 u) w) := by
  have hF : txt10 (front12 u) = ⟨#[]⟩ := by (show txt10 (front12 u) = txt10 []; refine congrArg txt10 ?_; unfold front12; rw [if_neg (by rw [hk]; simp)]; unfold dotted12; rw [ho, hp]; show (if (!false && decide (1 < (p :: ps).length) && decide (p = [])) = true then _ else _) = _; rw [decide_eq_false hpe, Bool.and_false]; rfl)
  unfold Txt12
  rw [hF, ho]
  have e1 : (u.kind == 0) = true := beq_iff_eq.2 hk
  have hn50 : n ≤ 50 := by have := hw.len; omega
  have d1 : decide ((1 : Int) < (n : Int)) = true := decide_eq_true (by omega)
  rw [hp] at h
  obtain ⟨b, off, rfl, hb, hc⟩ := h.first
  have hc1 := hc _ (bel12 w (.cells #[.string u.scheme, .string u.user, .string u.pass, .int .i64 u.kind, .string u.name, .int .u32 (u.v4 : Int), .int .u16 (u.a0 : Int), .int .u16 (u.a1 : Int), .int .u16 (u.a2 : Int), .int .u16 (u.a3 : Int), .int .u16 (u.a4 : Int), .int .u16 (u.a5 : Int), .int .u16 (u.a6 : Int), .int .u16 (u.a7 : Int), .int .i64 u.port, .bool false, .slice (some ⟨b, off, none⟩) n c, .bool u.hasQ, .string u.query, .bool u.hasF, .string u.frag] 29))
  have hpt : ((txt10 p).toList == []) = false := by rw [beq_eq_false_iff_ne, ByteArray.toList_eq]; exact hpe
  have hn0 : 0 < n := by omega
  clear hc
  have HG := Lib.hid (fun (W : World) (p : Nat) (hp : p = W.heap.size) => given_one false (x := ⟨#[47, 46]⟩) (t := ⟨#[]⟩) rfl (Nat.le_of_ble_eq_true rfl) 9 hp)
  have HX : Hid (Below w.heap.size w (w.alloc (.cells #[.string u.scheme, .string u.user, .string u.pass, .int .i64 u.kind, .string u.name, .int .u32 (u.v4 : Int), .int .u16 (u.a0 : Int), .int .u16 (u.a1 : Int), .int .u16 (u.a2 : Int), .int .u16 (u.a3 : Int), .int .u16 (u.a4 : Int), .int .u16 (u.a5 : Int), .int .u16 (u.a6 : Int), .int .u16 (u.a7 : Int), .int .i64 u.port, .bool false, .slice (some ⟨b, off, none⟩) n c, .bool u.hasQ, .string u.query, .bool u.hasF, .string u.frag] 29))) := bel12 _ _
  clear hw hn hk ho hF h hpe hp
  go_enter Tryd.func19, Tryd.ntmps19
  go_wp2_with (go_at_call 17; (with_reducible refine (HG.out _ _ (by first | rfl | simp)).mono ?_); rintro e w1 ⟨rfl, hb⟩; have HB := Lib.hid (bn12 HX.out hb); clear hb)
  go_ret
  exact ⟨rfl, HB.out⟩

theorem auth12_any (u : Url12) (A : Option Addr) (n c : Nat) (w : World) (h : At12 w u A n c) (hpw : Pow w) (h8 : V8 w) :
    Calls Tryd.prog 19 #[.agg #[.string u.scheme, .string u.user, .string u.pass, .int .i64 u.kind, .string u.name, .int .u32 (u.v4 : Int), .int .u16 (u.a0 : Int), .int .u16 (u.a1 : Int), .int .u16 (u.a2 : Int), .int .u16 (u.a3 : Int), .int .u16 (u.a4 : Int), .int .u16 (u.a5 : Int), .int .u16 (u.a6 : Int), .int .u16 (u.a7 : Int), .int .i64 u.port, .bool u.opaq, .slice A n c, .bool u.hasQ, .string u.query, .bool u.hasF, .string u.frag]] w (Txt12 (front12 u) w) := by
  have hn := h.len
  have hw := h.wee
  by_cases hk : u.kind = 0
  · cases ho : u.opaq with
    | true => have := auth12_o u A n c hn w h.segs hw hk ho; rwa [ho] at this
    | false =>
      by_cases h1 : n ≤ 1
      · have := auth12_s u A n c hn w h.segs hw hk ho h1; rwa [ho] at this
      · rcases hp : u.path with _ | ⟨p, ps⟩
        · rw [hp] at hn; simp at hn; omega
        · by_cases hpe : p = []
          · have := auth12_e u A n c hn w h.segs hw hk ho p ps hp hpe (by omega); rwa [ho] at this
          · have := auth12_f u A n c hn w h.segs hw hk ho p ps hp hpe (by omega); rwa [ho] at this
  · rcases emp_or u.user with ⟨hu, hu2⟩ | ⟨hu, hu2⟩ <;> rcases emp_or u.pass with ⟨hp, hp2⟩ | ⟨hp, hp2⟩ <;> by_cases h0 : 0 ≤ u.port
    · exact auth12_Any u A n c w hw hpw h8 hk hu hu2 hp hp2 h0
    · exact auth12_Ann u A n c w hw hpw h8 hk hu hu2 hp hp2 h0
    · exact auth12_Ayy u A n c w hw hpw h8 hk hu hu2 hp hp2 h0
    · exact auth12_Ayn u A n c w hw hpw h8 hk hu hu2 hp hp2 h0
    · exact auth12_Bny u A n c w hw hpw h8 hk hu hu2 hp hp2 h0
    · exact auth12_Bnn u A n c w hw hpw h8 hk hu hu2 hp hp2 h0
    · exact auth12_Byy u A n c w hw hpw h8 hk hu hu2 hp hp2 h0
    · exact auth12_Byn u A n c w hw hpw h8 hk hu hu2 hp hp2 h0
end Go.Proofs.YtliklhldlofnjaaDoor

/-
  In this text, one behind the other: RecSame.
-/
import Derived.BigQuiet
import Derived.Deep.AppendLies
import Derived.Deep.DrawnRows
import Derived.Deep.Light
import Derived.Deep.LoopGhost
import Derived.Deep.QuietTactic
import Derived.Deep.RegionHeld3
import Derived.Deep.RegionWith
import Derived.DeepKeys
import Derived.IntWalk
import Derived.LaidEql
import Derived.Laws.AppendOwnNone
import Derived.Laws.BitsLemmas
import Derived.Laws.Cover4
import Derived.Laws.Externs
import Derived.Laws.RangeString
import Derived.Laws.Rows
import Derived.Laws.Runes
import Derived.Lib.Hide
import Derived.Maps.AppendAt
import Derived.RowKitTokens
import Derived.Shelf.Strings.Builder1
import Derived.Stop.Asserts
import Derived.WalkKit
import Derived.WalkLawsBesides
import Derived.WalkMore
import Derived.WalkSpells
import Derived.Test.YtliklhldlofnjaaDoorRows
import Derived.Test.YtliklhldlofnjaaDoorG10
import Derived.Test.YtliklhldlofnjaaDoorG25
import Derived.Test.YtliklhldlofnjaaDoorG31
/-
  The document's Same of layer 12, by its contract (written by mkrec.py).
-/
namespace Go.Proofs.YtliklhldlofnjaaDoor
open Go.RowKit

def host12 (u v : Url12) : Bool := decide (u.kind = v.kind ∧ u.name = v.name ∧ (u.v4 : Int) = (v.v4 : Int) ∧ [(u.a0 : Int), (u.a1 : Int), (u.a2 : Int), (u.a3 : Int), (u.a4 : Int), (u.a5 : Int), (u.a6 : Int), (u.a7 : Int)] = [(v.a0 : Int), (v.a1 : Int), (v.a2 : Int), (v.a3 : Int), (v.a4 : Int), (v.a5 : Int), (v.a6 : Int), (v.a7 : Int)])
theorem host12_iff {u v : Url12} : host12 u v = true ↔ (u.kind = v.kind ∧ u.name = v.name ∧ u.v4 = v.v4 ∧ u.a0 = v.a0 ∧ u.a1 = v.a1 ∧ u.a2 = v.a2 ∧ u.a3 = v.a3 ∧ u.a4 = v.a4 ∧ u.a5 = v.a5 ∧ u.a6 = v.a6 ∧ u.a7 = v.a7) := by
  unfold host12
  rw [decide_eq_true_iff]
  simp only [List.cons.injEq, and_true, Int.natCast_inj]
theorem L16_of {n : Nat} (h : n < 65536) : L16 (n : Int) := ⟨by omega, by omega⟩
theorem host12_run {u v : Url12} {b : Bool} (hb : host12 u v = b) (hu : Wee12 u) (hv : Wee12 v) (W : World) : Sem.run Tryd.prog (Op.equalIn 10000 26 (.agg #[.int .i64 u.kind, .string u.name, .int .u32 (u.v4 : Int), .int .u16 (u.a0 : Int), .int .u16 (u.a1 : Int), .int .u16 (u.a2 : Int), .int .u16 (u.a3 : Int), .int .u16 (u.a4 : Int), .int .u16 (u.a5 : Int), .int .u16 (u.a6 : Int), .int .u16 (u.a7 : Int)]) (.agg #[.int .i64 v.kind, .string v.name, .int .u32 (v.v4 : Int), .int .u16 (v.a0 : Int), .int .u16 (v.a1 : Int), .int .u16 (v.a2 : Int), .int .u16 (v.a3 : Int), .int .u16 (v.a4 : Int), .int .u16 (v.a5 : Int), .int .u16 (v.a6 : Int), .int .u16 (v.a7 : Int)])) W = .ok b W := by
  have a : ∀ n ∈ u.v6, L16 (n : Int) := fun n hn => L16_of (hu.nums.v6 n hn)
  have b' : ∀ n ∈ v.v6, L16 (n : Int) := fun n hn => L16_of (hv.nums.v6 n hn)
  have h := same9 u.kind u.name (u.v4 : Int) (u.a0 : Int) (u.a1 : Int) (u.a2 : Int) (u.a3 : Int) (u.a4 : Int) (u.a5 : Int) (u.a6 : Int) (u.a7 : Int) v.kind v.name (v.v4 : Int) (v.a0 : Int) (v.a1 : Int) (v.a2 : Int) (v.a3 : Int) (v.a4 : Int) (v.a5 : Int) (v.a6 : Int) (v.a7 : Int) ⟨hu.nums.k0, hu.nums.k1⟩ (by have := hu.name; omega) ⟨by omega, by have := hu.nums.v4; omega⟩ (a _ (by simp [Url12.v6])) (a _ (by simp [Url12.v6])) (a _ (by simp [Url12.v6])) (a _ (by simp [Url12.v6])) (a _ (by simp [Url12.v6])) (a _ (by simp [Url12.v6])) (a _ (by simp [Url12.v6])) (a _ (by simp [Url12.v6])) ⟨hv.nums.k0, hv.nums.k1⟩ (by have := hv.name; omega) ⟨by omega, by have := hv.nums.v4; omega⟩ (b' _ (by simp [Url12.v6])) (b' _ (by simp [Url12.v6])) (b' _ (by simp [Url12.v6])) (b' _ (by simp [Url12.v6])) (b' _ (by simp [Url12.v6])) (b' _ (by simp [Url12.v6])) (b' _ (by simp [Url12.v6])) (b' _ (by simp [Url12.v6])) W
  rw [← hb]
  exact h
theorem tl12 {s t : ByteArray} : s.toList = t.toList ↔ s = t := by
  rw [ByteArray.toList_eq, ByteArray.toList_eq]
  exact ⟨fun h => ByteArray.ext (Array.toList_inj.1 h), fun h => by rw [h]⟩
theorem same12_parts (u v : Url12) : same12 u v = ((u.scheme.toList == v.scheme.toList) && (u.user.toList == v.user.toList) && (u.pass.toList == v.pass.toList) && (host12 u v) && (u.port == v.port) && (u.opaq == v.opaq) && (decide (u.path = v.path)) && (u.hasQ == v.hasQ) && (u.query.toList == v.query.toList) && (u.hasF == v.hasF) && (u.frag.toList == v.frag.toList)) := by
  rw [Bool.eq_iff_iff]
  unfold same12
  rw [decide_eq_true_eq]
  unfold Same12
  simp only [Bool.and_eq_true, tl12, host12_iff, beq_iff_eq, decide_eq_true_eq]
  constructor
  · rintro ⟨h1, h2, h3, h4, h5, h6, h7, h8, h9, h10, h11⟩; exact ⟨⟨⟨⟨⟨⟨⟨⟨⟨⟨h1, h2⟩, h3⟩, h4⟩, h5⟩, h6⟩, h7⟩, h8⟩, h9⟩, h10⟩, h11⟩
  · rintro ⟨⟨⟨⟨⟨⟨⟨⟨⟨⟨h1, h2⟩, h3⟩, h4⟩, h5⟩, h6⟩, h7⟩, h8⟩, h9⟩, h10⟩, h11⟩; exact ⟨h1, h2, h3, h4, h5, h6, h7, h8, h9, h10, h11⟩
theorem two12 {w : World} (x0 x1 x2 x3 x4 x5 x6 x7 x8 x9 x10 x11 x12 x13 x14 x15 x16 x17 x18 x19 x20 y0 y1 y2 y3 y4 y5 y6 y7 y8 y9 y10 y11 y12 y13 y14 y15 y16 y17 y18 y19 y20 : Value) : ∀ wx, Below ((w.alloc (.cells #[x0, x1, x2, x3, x4, x5, x6, x7, x8, x9, x10, x11, x12, x13, x14, x15, x16, x17, x18, x19, x20] 29)).alloc (.cells #[y0, y1, y2, y3, y4, y5, y6, y7, y8, y9, y10, y11, y12, y13, y14, y15, y16, y17, y18, y19, y20] 29)).heap.size ((w.alloc (.cells #[x0, x1, x2, x3, x4, x5, x6, x7, x8, x9, x10, x11, x12, x13, x14, x15, x16, x17, x18, x19, x20] 29)).alloc (.cells #[y0, y1, y2, y3, y4, y5, y6, y7, y8, y9, y10, y11, y12, y13, y14, y15, y16, y17, y18, y19, y20] 29)) wx → (Hid (wx.heap[w.heap.size]? = some (.cells #[x0, x1, x2, x3, x4, x5, x6, x7, x8, x9, x10, x11, x12, x13, x14, x15, x16, x17, x18, x19, x20] 29 (0, 0))) ∧ wx.cell? ⟨w.heap.size, 14, none⟩ = some x14 ∧ wx.cell? ⟨w.heap.size, 15, none⟩ = some x15 ∧ wx.cell? ⟨w.heap.size, 16, none⟩ = some x16 ∧ wx.cell? ⟨w.heap.size, 17, none⟩ = some x17 ∧ wx.cell? ⟨w.heap.size, 18, none⟩ = some x18 ∧ wx.cell? ⟨w.heap.size, 19, none⟩ = some x19 ∧ wx.cell? ⟨w.heap.size, 20, none⟩ = some x20) ∧ (Hid (wx.heap[w.heap.size + 1]? = some (.cells #[y0, y1, y2, y3, y4, y5, y6, y7, y8, y9, y10, y11, y12, y13, y14, y15, y16, y17, y18, y19, y20] 29 (0, 0))) ∧ wx.cell? ⟨w.heap.size + 1, 14, none⟩ = some y14 ∧ wx.cell? ⟨w.heap.size + 1, 15, none⟩ = some y15 ∧ wx.cell? ⟨w.heap.size + 1, 16, none⟩ = some y16 ∧ wx.cell? ⟨w.heap.size + 1, 17, none⟩ = some y17 ∧ wx.cell? ⟨w.heap.size + 1, 18, none⟩ = some y18 ∧ wx.cell? ⟨w.heap.size + 1, 19, none⟩ = some y19 ∧ wx.cell? ⟨w.heap.size + 1, 20, none⟩ = some y20) := by
  intro wx hb
  have h1 : wx.heap[w.heap.size]? = some (.cells #[x0, x1, x2, x3, x4, x5, x6, x7, x8, x9, x10, x11, x12, x13, x14, x15, x16, x17, x18, x19, x20] 29 (0, 0)) := (hb.block w.heap.size (by simp; omega)).trans (by
    have := (bel12 (w.alloc (.cells #[x0, x1, x2, x3, x4, x5, x6, x7, x8, x9, x10, x11, x12, x13, x14, x15, x16, x17, x18, x19, x20] 29)) (.cells #[y0, y1, y2, y3, y4, y5, y6, y7, y8, y9, y10, y11, y12, y13, y14, y15, y16, y17, y18, y19, y20] 29)).block w.heap.size (by simp)
    exact this.trans (heap_alloc_new w _))
  have h2 : wx.heap[w.heap.size + 1]? = some (.cells #[y0, y1, y2, y3, y4, y5, y6, y7, y8, y9, y10, y11, y12, y13, y14, y15, y16, y17, y18, y19, y20] 29 (0, 0)) := (hb.block (w.heap.size + 1) (by simp)).trans (by
    have := heap_alloc_new (w.alloc (.cells #[x0, x1, x2, x3, x4, x5, x6, x7, x8, x9, x10, x11, x12, x13, x14, x15, x16, x17, x18, x19, x20] 29)) (.cells #[y0, y1, y2, y3, y4, y5, y6, y7, y8, y9, y10, y11, y12, y13, y14, y15, y16, y17, y18, y19, y20] 29)
    rwa [World.size_alloc] at this)
  refine ⟨⟨h1, ?_, ?_, ?_, ?_, ?_, ?_, ?_⟩, h2, ?_, ?_, ?_, ?_, ?_, ?_, ?_⟩
  all_goals first | (simp [World.cell?, h1]; done) | (simp [World.cell?, h2]; done)

set_option maxHeartbeats 8000000 in
set_option maxRecDepth 100000 in
theorem refSame12_any (u v : Url12) (A B : Option Addr) (n m c d : Nat) (w : World) (hu : At12 w u A n c) (hv : At12 w v B m d) :
    Calls Tryd.prog 15 #[.agg #[.string u.scheme, .string u.user, .string u.pass, .int .i64 u.kind, .string u.name, .int .u32 (u.v4 : Int), .int .u16 (u.a0 : Int), .int .u16 (u.a1 : Int), .int .u16 (u.a2 : Int), .int .u16 (u.a3 : Int), .int .u16 (u.a4 : Int), .int .u16 (u.a5 : Int), .int .u16 (u.a6 : Int), .int .u16 (u.a7 : Int), .int .i64 u.port, .bool u.opaq, .slice A n c, .bool u.hasQ, .string u.query, .bool u.hasF, .string u.frag], .agg #[.string v.scheme, .string v.user, .string v.pass, .int .i64 v.kind, .string v.name, .int .u32 (v.v4 : Int), .int .u16 (v.a0 : Int), .int .u16 (v.a1 : Int), .int .u16 (v.a2 : Int), .int .u16 (v.a3 : Int), .int .u16 (v.a4 : Int), .int .u16 (v.a5 : Int), .int .u16 (v.a6 : Int), .int .u16 (v.a7 : Int), .int .i64 v.port, .bool v.opaq, .slice B m d, .bool v.hasQ, .string v.query, .bool v.hasF, .string v.frag]] w fun e w' => e = .returned (.bool (same12 u v)) ∧ Below w.heap.size w w' := by
  obtain ⟨S, hS⟩ : ∃ S, same12 u v = S := ⟨_, rfl⟩
  rw [hS]
  obtain ⟨b0, h0⟩ : ∃ b, (u.scheme.toList == v.scheme.toList) = b := ⟨_, rfl⟩
  rcases Bool.eq_false_or_eq_true b0 with g0 | g0
  · have Q0 := Lib.hid (h0.trans g0)
    obtain ⟨b1, h1⟩ : ∃ b, (u.user.toList == v.user.toList) = b := ⟨_, rfl⟩
    rcases Bool.eq_false_or_eq_true b1 with g1 | g1
    · have Q1 := Lib.hid (h1.trans g1)
      obtain ⟨b2, h2⟩ : ∃ b, (u.pass.toList == v.pass.toList) = b := ⟨_, rfl⟩
      rcases Bool.eq_false_or_eq_true b2 with g2 | g2
      · have Q2 := Lib.hid (h2.trans g2)
        obtain ⟨b3, h3⟩ : ∃ b, (host12 u v) = b := ⟨_, rfl⟩
        rcases Bool.eq_false_or_eq_true b3 with g3 | g3
        · have Q3 := Lib.hid (h3.trans g3)
          obtain ⟨b4, h4⟩ : ∃ b, (u.port == v.port) = b := ⟨_, rfl⟩
          rcases Bool.eq_false_or_eq_true b4 with g4 | g4
          · have Q4 := Lib.hid (h4.trans g4)
            rw [show v.port = u.port from (eq_of_beq Q4.out).symm]
            clear h4 g4
            obtain ⟨b5, h5⟩ : ∃ b, (u.opaq == v.opaq) = b := ⟨_, rfl⟩
            rcases Bool.eq_false_or_eq_true b5 with g5 | g5
            · have Q5 := Lib.hid (h5.trans g5)
              rw [show v.opaq = u.opaq from (eq_of_beq Q5.out).symm]
              clear h5 g5
              obtain ⟨b6, h6⟩ : ∃ b, (decide (u.path = v.path)) = b := ⟨_, rfl⟩
              rcases Bool.eq_false_or_eq_true b6 with g6 | g6
              · have Q6 := Lib.hid (h6.trans g6)
                obtain ⟨b7, h7⟩ : ∃ b, (u.hasQ == v.hasQ) = b := ⟨_, rfl⟩
                rcases Bool.eq_false_or_eq_true b7 with g7 | g7
                · have Q7 := Lib.hid (h7.trans g7)
                  rw [show v.hasQ = u.hasQ from (eq_of_beq Q7.out).symm]
                  clear h7 g7
                  obtain ⟨b8, h8⟩ : ∃ b, (u.query.toList == v.query.toList) = b := ⟨_, rfl⟩
                  rcases Bool.eq_false_or_eq_true b8 with g8 | g8
                  · have Q8 := Lib.hid (h8.trans g8)
                    obtain ⟨b9, h9⟩ : ∃ b, (u.hasF == v.hasF) = b := ⟨_, rfl⟩
                    rcases Bool.eq_false_or_eq_true b9 with g9 | g9
                    · have Q9 := Lib.hid (h9.trans g9)
                      rw [show v.hasF = u.hasF from (eq_of_beq Q9.out).symm]
                      clear h9 g9
                      obtain ⟨b10, h10⟩ : ∃ b, (u.frag.toList == v.frag.toList) = b := ⟨_, rfl⟩
                      rcases Bool.eq_false_or_eq_true b10 with g10 | g10
                      · have Q10 := Lib.hid (h10.trans g10)
                        have HR : Hid (S = true) := by show S = true; rw [← hS, same12_parts, Q0.out, Q1.out, Q2.out, Q3.out, Q4.out, Q5.out, Q6.out, Q7.out, Q8.out, Q9.out, Q10.out]; rfl
                        have HCs := Lib.hid (two12 (w := w) (.string u.scheme) (.string u.user) (.string u.pass) (.int .i64 u.kind) (.string u.name) (.int .u32 (u.v4 : Int)) (.int .u16 (u.a0 : Int)) (.int .u16 (u.a1 : Int)) (.int .u16 (u.a2 : Int)) (.int .u16 (u.a3 : Int)) (.int .u16 (u.a4 : Int)) (.int .u16 (u.a5 : Int)) (.int .u16 (u.a6 : Int)) (.int .u16 (u.a7 : Int)) (.int .i64 u.port) (.bool u.opaq) (.slice A n c) (.bool u.hasQ) (.string u.query) (.bool u.hasF) (.string u.frag) (.string v.scheme) (.string v.user) (.string v.pass) (.int .i64 v.kind) (.string v.name) (.int .u32 (v.v4 : Int)) (.int .u16 (v.a0 : Int)) (.int .u16 (v.a1 : Int)) (.int .u16 (v.a2 : Int)) (.int .u16 (v.a3 : Int)) (.int .u16 (v.a4 : Int)) (.int .u16 (v.a5 : Int)) (.int .u16 (v.a6 : Int)) (.int .u16 (v.a7 : Int)) (.int .i64 u.port) (.bool u.opaq) (.slice B m d) (.bool u.hasQ) (.string v.query) (.bool u.hasF) (.string v.frag))
                        have HX : Hid (Below w.heap.size w ((w.alloc (.cells #[.string u.scheme, .string u.user, .string u.pass, .int .i64 u.kind, .string u.name, .int .u32 (u.v4 : Int), .int .u16 (u.a0 : Int), .int .u16 (u.a1 : Int), .int .u16 (u.a2 : Int), .int .u16 (u.a3 : Int), .int .u16 (u.a4 : Int), .int .u16 (u.a5 : Int), .int .u16 (u.a6 : Int), .int .u16 (u.a7 : Int), .int .i64 u.port, .bool u.opaq, .slice A n c, .bool u.hasQ, .string u.query, .bool u.hasF, .string u.frag] 29)).alloc (.cells #[.string v.scheme, .string v.user, .string v.pass, .int .i64 v.kind, .string v.name, .int .u32 (v.v4 : Int), .int .u16 (v.a0 : Int), .int .u16 (v.a1 : Int), .int .u16 (v.a2 : Int), .int .u16 (v.a3 : Int), .int .u16 (v.a4 : Int), .int .u16 (v.a5 : Int), .int .u16 (v.a6 : Int), .int .u16 (v.a7 : Int), .int .i64 u.port, .bool u.opaq, .slice B m d, .bool u.hasQ, .string v.query, .bool u.hasF, .string v.frag] 29))) := bn12 (bel12 w _) (bel12 _ _)
                        have HH := host12_run h3 hu.wee hv.wee
                        have HSu := Lib.hid (hu.segs.below HX.out)
                        have HSv := Lib.hid (hv.segs.below HX.out)
                        have HP := Lib.hid (fun w h g => rsame_is (A := A) (B := B) (c := c) (d := d) h6 hu.len hv.len (by have := hu.wee.len; have := hu.len; omega) w h g)
                        clear hS hu hv h3 h6
                        go_enter Tryd.func15, Tryd.ntmps15
                        go_wp2_with (go_at_call 25; (with_reducible refine (HP.out _ HSu.out HSv.out).mono ?_); rintro e w1 ⟨rfl, hb⟩; (obtain ⟨⟨s0, s14, s15, s16, s17, s18, s19, s20⟩, t0, t14, t15, t16, t17, t18, t19, t20⟩ := HCs.out _ hb); have HB := Lib.hid hb; clear hb)
                        all_goals first
                          | (go_ret; exact ⟨ret_bool HR.out.symm, HX.out.trans (HB.out.mono HX.out.size)⟩)
                          | (exfalso; simp_all; done)
                      · have HR : Hid (S = false) := by show S = false; rw [← hS, same12_parts, h10, g10]; simp
                        have HCs := Lib.hid (two12 (w := w) (.string u.scheme) (.string u.user) (.string u.pass) (.int .i64 u.kind) (.string u.name) (.int .u32 (u.v4 : Int)) (.int .u16 (u.a0 : Int)) (.int .u16 (u.a1 : Int)) (.int .u16 (u.a2 : Int)) (.int .u16 (u.a3 : Int)) (.int .u16 (u.a4 : Int)) (.int .u16 (u.a5 : Int)) (.int .u16 (u.a6 : Int)) (.int .u16 (u.a7 : Int)) (.int .i64 u.port) (.bool u.opaq) (.slice A n c) (.bool u.hasQ) (.string u.query) (.bool u.hasF) (.string u.frag) (.string v.scheme) (.string v.user) (.string v.pass) (.int .i64 v.kind) (.string v.name) (.int .u32 (v.v4 : Int)) (.int .u16 (v.a0 : Int)) (.int .u16 (v.a1 : Int)) (.int .u16 (v.a2 : Int)) (.int .u16 (v.a3 : Int)) (.int .u16 (v.a4 : Int)) (.int .u16 (v.a5 : Int)) (.int .u16 (v.a6 : Int)) (.int .u16 (v.a7 : Int)) (.int .i64 u.port) (.bool u.opaq) (.slice B m d) (.bool u.hasQ) (.string v.query) (.bool u.hasF) (.string v.frag))
                        have HX : Hid (Below w.heap.size w ((w.alloc (.cells #[.string u.scheme, .string u.user, .string u.pass, .int .i64 u.kind, .string u.name, .int .u32 (u.v4 : Int), .int .u16 (u.a0 : Int), .int .u16 (u.a1 : Int), .int .u16 (u.a2 : Int), .int .u16 (u.a3 : Int), .int .u16 (u.a4 : Int), .int .u16 (u.a5 : Int), .int .u16 (u.a6 : Int), .int .u16 (u.a7 : Int), .int .i64 u.port, .bool u.opaq, .slice A n c, .bool u.hasQ, .string u.query, .bool u.hasF, .string u.frag] 29)).alloc (.cells #[.string v.scheme, .string v.user, .string v.pass, .int .i64 v.kind, .string v.name, .int .u32 (v.v4 : Int), .int .u16 (v.a0 : Int), .int .u16 (v.a1 : Int), .int .u16 (v.a2 : Int), .int .u16 (v.a3 : Int), .int .u16 (v.a4 : Int), .int .u16 (v.a5 : Int), .int .u16 (v.a6 : Int), .int .u16 (v.a7 : Int), .int .i64 u.port, .bool u.opaq, .slice B m d, .bool u.hasQ, .string v.query, .bool u.hasF, .string v.frag] 29))) := bn12 (bel12 w _) (bel12 _ _)
                        have HH := host12_run h3 hu.wee hv.wee
                        have HSu := Lib.hid (hu.segs.below HX.out)
                        have HSv := Lib.hid (hv.segs.below HX.out)
                        have HP := Lib.hid (fun w h g => rsame_is (A := A) (B := B) (c := c) (d := d) h6 hu.len hv.len (by have := hu.wee.len; have := hu.len; omega) w h g)
                        clear hS hu hv h3 h6
                        go_enter Tryd.func15, Tryd.ntmps15
                        go_wp2_with (go_at_call 25; (with_reducible refine (HP.out _ HSu.out HSv.out).mono ?_); rintro e w1 ⟨rfl, hb⟩; (obtain ⟨⟨s0, s14, s15, s16, s17, s18, s19, s20⟩, t0, t14, t15, t16, t17, t18, t19, t20⟩ := HCs.out _ hb); have HB := Lib.hid hb; clear hb)
                        all_goals first
                          | (go_ret; exact ⟨ret_bool HR.out.symm, HX.out.trans (HB.out.mono HX.out.size)⟩)
                          | (exfalso; simp_all; done)
                    · have HR : Hid (S = false) := by show S = false; rw [← hS, same12_parts, h9, g9]; simp
                      have HCs := Lib.hid (two12 (w := w) (.string u.scheme) (.string u.user) (.string u.pass) (.int .i64 u.kind) (.string u.name) (.int .u32 (u.v4 : Int)) (.int .u16 (u.a0 : Int)) (.int .u16 (u.a1 : Int)) (.int .u16 (u.a2 : Int)) (.int .u16 (u.a3 : Int)) (.int .u16 (u.a4 : Int)) (.int .u16 (u.a5 : Int)) (.int .u16 (u.a6 : Int)) (.int .u16 (u.a7 : Int)) (.int .i64 u.port) (.bool u.opaq) (.slice A n c) (.bool u.hasQ) (.string u.query) (.bool u.hasF) (.string u.frag) (.string v.scheme) (.string v.user) (.string v.pass) (.int .i64 v.kind) (.string v.name) (.int .u32 (v.v4 : Int)) (.int .u16 (v.a0 : Int)) (.int .u16 (v.a1 : Int)) (.int .u16 (v.a2 : Int)) (.int .u16 (v.a3 : Int)) (.int .u16 (v.a4 : Int)) (.int .u16 (v.a5 : Int)) (.int .u16 (v.a6 : Int)) (.int .u16 (v.a7 : Int)) (.int .i64 u.port) (.bool u.opaq) (.slice B m d) (.bool u.hasQ) (.string v.query) (.bool v.hasF) (.string v.frag))
                      have HX : Hid (Below w.heap.size w ((w.alloc (.cells #[.string u.scheme, .string u.user, .string u.pass, .int .i64 u.kind, .string u.name, .int .u32 (u.v4 : Int), .int .u16 (u.a0 : Int), .int .u16 (u.a1 : Int), .int .u16 (u.a2 : Int), .int .u16 (u.a3 : Int), .int .u16 (u.a4 : Int), .int .u16 (u.a5 : Int), .int .u16 (u.a6 : Int), .int .u16 (u.a7 : Int), .int .i64 u.port, .bool u.opaq, .slice A n c, .bool u.hasQ, .string u.query, .bool u.hasF, .string u.frag] 29)).alloc (.cells #[.string v.scheme, .string v.user, .string v.pass, .int .i64 v.kind, .string v.name, .int .u32 (v.v4 : Int), .int .u16 (v.a0 : Int), .int .u16 (v.a1 : Int), .int .u16 (v.a2 : Int), .int .u16 (v.a3 : Int), .int .u16 (v.a4 : Int), .int .u16 (v.a5 : Int), .int .u16 (v.a6 : Int), .int .u16 (v.a7 : Int), .int .i64 u.port, .bool u.opaq, .slice B m d, .bool u.hasQ, .string v.query, .bool v.hasF, .string v.frag] 29))) := bn12 (bel12 w _) (bel12 _ _)
                      have HH := host12_run h3 hu.wee hv.wee
                      have HSu := Lib.hid (hu.segs.below HX.out)
                      have HSv := Lib.hid (hv.segs.below HX.out)
                      have HP := Lib.hid (fun w h g => rsame_is (A := A) (B := B) (c := c) (d := d) h6 hu.len hv.len (by have := hu.wee.len; have := hu.len; omega) w h g)
                      clear hS hu hv h3 h6
                      go_enter Tryd.func15, Tryd.ntmps15
                      go_wp2_with (go_at_call 25; (with_reducible refine (HP.out _ HSu.out HSv.out).mono ?_); rintro e w1 ⟨rfl, hb⟩; (obtain ⟨⟨s0, s14, s15, s16, s17, s18, s19, s20⟩, t0, t14, t15, t16, t17, t18, t19, t20⟩ := HCs.out _ hb); have HB := Lib.hid hb; clear hb)
                      all_goals first
                        | (go_ret; exact ⟨ret_bool HR.out.symm, HX.out.trans (HB.out.mono HX.out.size)⟩)
                        | (exfalso; simp_all; done)
                  · have HR : Hid (S = false) := by show S = false; rw [← hS, same12_parts, h8, g8]; simp
                    have HCs := Lib.hid (two12 (w := w) (.string u.scheme) (.string u.user) (.string u.pass) (.int .i64 u.kind) (.string u.name) (.int .u32 (u.v4 : Int)) (.int .u16 (u.a0 : Int)) (.int .u16 (u.a1 : Int)) (.int .u16 (u.a2 : Int)) (.int .u16 (u.a3 : Int)) (.int .u16 (u.a4 : Int)) (.int .u16 (u.a5 : Int)) (.int .u16 (u.a6 : Int)) (.int .u16 (u.a7 : Int)) (.int .i64 u.port) (.bool u.opaq) (.slice A n c) (.bool u.hasQ) (.string u.query) (.bool u.hasF) (.string u.frag) (.string v.scheme) (.string v.user) (.string v.pass) (.int .i64 v.kind) (.string v.name) (.int .u32 (v.v4 : Int)) (.int .u16 (v.a0 : Int)) (.int .u16 (v.a1 : Int)) (.int .u16 (v.a2 : Int)) (.int .u16 (v.a3 : Int)) (.int .u16 (v.a4 : Int)) (.int .u16 (v.a5 : Int)) (.int .u16 (v.a6 : Int)) (.int .u16 (v.a7 : Int)) (.int .i64 u.port) (.bool u.opaq) (.slice B m d) (.bool u.hasQ) (.string v.query) (.bool v.hasF) (.string v.frag))
                    have HX : Hid (Below w.heap.size w ((w.alloc (.cells #[.string u.scheme, .string u.user, .string u.pass, .int .i64 u.kind, .string u.name, .int .u32 (u.v4 : Int), .int .u16 (u.a0 : Int), .int .u16 (u.a1 : Int), .int .u16 (u.a2 : Int), .int .u16 (u.a3 : Int), .int .u16 (u.a4 : Int), .int .u16 (u.a5 : Int), .int .u16 (u.a6 : Int), .int .u16 (u.a7 : Int), .int .i64 u.port, .bool u.opaq, .slice A n c, .bool u.hasQ, .string u.query, .bool u.hasF, .string u.frag] 29)).alloc (.cells #[.string v.scheme, .string v.user, .string v.pass, .int .i64 v.kind, .string v.name, .int .u32 (v.v4 : Int), .int .u16 (v.a0 : Int), .int .u16 (v.a1 : Int), .int .u16 (v.a2 : Int), .int .u16 (v.a3 : Int), .int .u16 (v.a4 : Int), .int .u16 (v.a5 : Int), .int .u16 (v.a6 : Int), .int .u16 (v.a7 : Int), .int .i64 u.port, .bool u.opaq, .slice B m d, .bool u.hasQ, .string v.query, .bool v.hasF, .string v.frag] 29))) := bn12 (bel12 w _) (bel12 _ _)
                    have HH := host12_run h3 hu.wee hv.wee
                    have HSu := Lib.hid (hu.segs.below HX.out)
                    have HSv := Lib.hid (hv.segs.below HX.out)
                    have HP := Lib.hid (fun w h g => rsame_is (A := A) (B := B) (c := c) (d := d) h6 hu.len hv.len (by have := hu.wee.len; have := hu.len; omega) w h g)
                    clear hS hu hv h3 h6
                    go_enter Tryd.func15, Tryd.ntmps15
                    go_wp2_with (go_at_call 25; (with_reducible refine (HP.out _ HSu.out HSv.out).mono ?_); rintro e w1 ⟨rfl, hb⟩; (obtain ⟨⟨s0, s14, s15, s16, s17, s18, s19, s20⟩, t0, t14, t15, t16, t17, t18, t19, t20⟩ := HCs.out _ hb); have HB := Lib.hid hb; clear hb)
                    all_goals first
                      | (go_ret; exact ⟨ret_bool HR.out.symm, HX.out.trans (HB.out.mono HX.out.size)⟩)
                      | (exfalso; simp_all; done)
                · have HR : Hid (S = false) := by show S = false; rw [← hS, same12_parts, h7, g7]; simp
                  have HCs := Lib.hid (two12 (w := w) (.string u.scheme) (.string u.user) (.string u.pass) (.int .i64 u.kind) (.string u.name) (.int .u32 (u.v4 : Int)) (.int .u16 (u.a0 : Int)) (.int .u16 (u.a1 : Int)) (.int .u16 (u.a2 : Int)) (.int .u16 (u.a3 : Int)) (.int .u16 (u.a4 : Int)) (.int .u16 (u.a5 : Int)) (.int .u16 (u.a6 : Int)) (.int .u16 (u.a7 : Int)) (.int .i64 u.port) (.bool u.opaq) (.slice A n c) (.bool u.hasQ) (.string u.query) (.bool u.hasF) (.string u.frag) (.string v.scheme) (.string v.user) (.string v.pass) (.int .i64 v.kind) (.string v.name) (.int .u32 (v.v4 : Int)) (.int .u16 (v.a0 : Int)) (.int .u16 (v.a1 : Int)) (.int .u16 (v.a2 : Int)) (.int .u16 (v.a3 : Int)) (.int .u16 (v.a4 : Int)) (.int .u16 (v.a5 : Int)) (.int .u16 (v.a6 : Int)) (.int .u16 (v.a7 : Int)) (.int .i64 u.port) (.bool u.opaq) (.slice B m d) (.bool v.hasQ) (.string v.query) (.bool v.hasF) (.string v.frag))
                  have HX : Hid (Below w.heap.size w ((w.alloc (.cells #[.string u.scheme, .string u.user, .string u.pass, .int .i64 u.kind, .string u.name, .int .u32 (u.v4 : Int), .int .u16 (u.a0 : Int), .int .u16 (u.a1 : Int), .int .u16 (u.a2 : Int), .int .u16 (u.a3 : Int), .int .u16 (u.a4 : Int), .int .u16 (u.a5 : Int), .int .u16 (u.a6 : Int), .int .u16 (u.a7 : Int), .int .i64 u.port, .bool u.opaq, .slice A n c, .bool u.hasQ, .string u.query, .bool u.hasF, .string u.frag] 29)).alloc (.cells #[.string v.scheme, .string v.user, .string v.pass, .int .i64 v.kind, .string v.name, .int .u32 (v.v4 : Int), .int .u16 (v.a0 : Int), .int .u16 (v.a1 : Int), .int .u16 (v.a2 : Int), .int .u16 (v.a3 : Int), .int .u16 (v.a4 : Int), .int .u16 (v.a5 : Int), .int .u16 (v.a6 : Int), .int .u16 (v.a7 : Int), .int .i64 u.port, .bool u.opaq, .slice B m d, .bool v.hasQ, .string v.query, .bool v.hasF, .string v.frag] 29))) := bn12 (bel12 w _) (bel12 _ _)
                  have HH := host12_run h3 hu.wee hv.wee
                  have HSu := Lib.hid (hu.segs.below HX.out)
                  have HSv := Lib.hid (hv.segs.below HX.out)
                  have HP := Lib.hid (fun w h g => rsame_is (A := A) (B := B) (c := c) (d := d) h6 hu.len hv.len (by have := hu.wee.len; have := hu.len; omega) w h g)
                  clear hS hu hv h3 h6
                  go_enter Tryd.func15, Tryd.ntmps15
                  go_wp2_with (go_at_call 25; (with_reducible refine (HP.out _ HSu.out HSv.out).mono ?_); rintro e w1 ⟨rfl, hb⟩; (obtain ⟨⟨s0, s14, s15, s16, s17, s18, s19, s20⟩, t0, t14, t15, t16, t17, t18, t19, t20⟩ := HCs.out _ hb); have HB := Lib.hid hb; clear hb)
                  all_goals first
                    | (go_ret; exact ⟨ret_bool HR.out.symm, HX.out.trans (HB.out.mono HX.out.size)⟩)
                    | (exfalso; simp_all; done)
              · have HR : Hid (S = false) := by show S = false; rw [← hS, same12_parts, h6, g6]; simp
                have HCs := Lib.hid (two12 (w := w) (.string u.scheme) (.string u.user) (.string u.pass) (.int .i64 u.kind) (.string u.name) (.int .u32 (u.v4 : Int)) (.int .u16 (u.a0 : Int)) (.int .u16 (u.a1 : Int)) (.int .u16 (u.a2 : Int)) (.int .u16 (u.a3 : Int)) (.int .u16 (u.a4 : Int)) (.int .u16 (u.a5 : Int)) (.int .u16 (u.a6 : Int)) (.int .u16 (u.a7 : Int)) (.int .i64 u.port) (.bool u.opaq) (.slice A n c) (.bool u.hasQ) (.string u.query) (.bool u.hasF) (.string u.frag) (.string v.scheme) (.string v.user) (.string v.pass) (.int .i64 v.kind) (.string v.name) (.int .u32 (v.v4 : Int)) (.int .u16 (v.a0 : Int)) (.int .u16 (v.a1 : Int)) (.int .u16 (v.a2 : Int)) (.int .u16 (v.a3 : Int)) (.int .u16 (v.a4 : Int)) (.int .u16 (v.a5 : Int)) (.int .u16 (v.a6 : Int)) (.int .u16 (v.a7 : Int)) (.int .i64 u.port) (.bool u.opaq) (.slice B m d) (.bool v.hasQ) (.string v.query) (.bool v.hasF) (.string v.frag))
                have HX : Hid (Below w.heap.size w ((w.alloc (.cells #[.string u.scheme, .string u.user, .string u.pass, .int .i64 u.kind, .string u.name, .int .u32 (u.v4 : Int), .int .u16 (u.a0 : Int), .int .u16 (u.a1 : Int), .int .u16 (u.a2 : Int), .int .u16 (u.a3 : Int), .int .u16 (u.a4 : Int), .int .u16 (u.a5 : Int), .int .u16 (u.a6 : Int), .int .u16 (u.a7 : Int), .int .i64 u.port, .bool u.opaq, .slice A n c, .bool u.hasQ, .string u.query, .bool u.hasF, .string u.frag] 29)).alloc (.cells #[.string v.scheme, .string v.user, .string v.pass, .int .i64 v.kind, .string v.name, .int .u32 (v.v4 : Int), .int .u16 (v.a0 : Int), .int .u16 (v.a1 : Int), .int .u16 (v.a2 : Int), .int .u16 (v.a3 : Int), .int .u16 (v.a4 : Int), .int .u16 (v.a5 : Int), .int .u16 (v.a6 : Int), .int .u16 (v.a7 : Int), .int .i64 u.port, .bool u.opaq, .slice B m d, .bool v.hasQ, .string v.query, .bool v.hasF, .string v.frag] 29))) := bn12 (bel12 w _) (bel12 _ _)
                have HH := host12_run h3 hu.wee hv.wee
                have HSu := Lib.hid (hu.segs.below HX.out)
                have HSv := Lib.hid (hv.segs.below HX.out)
                have HP := Lib.hid (fun w h g => rsame_is (A := A) (B := B) (c := c) (d := d) h6 hu.len hv.len (by have := hu.wee.len; have := hu.len; omega) w h g)
                clear hS hu hv h3 h6
                go_enter Tryd.func15, Tryd.ntmps15
                go_wp2_with (go_at_call 25; (with_reducible refine (HP.out _ HSu.out HSv.out).mono ?_); rintro e w1 ⟨rfl, hb⟩; (obtain ⟨⟨s0, s14, s15, s16, s17, s18, s19, s20⟩, t0, t14, t15, t16, t17, t18, t19, t20⟩ := HCs.out _ hb); have HB := Lib.hid hb; clear hb)
                all_goals first
                  | (go_ret; exact ⟨ret_bool HR.out.symm, HX.out.trans (HB.out.mono HX.out.size)⟩)
                  | (exfalso; simp_all; done)
            · have HR : Hid (S = false) := by show S = false; rw [← hS, same12_parts, h5, g5]; simp
              rw [show v.opaq = !u.opaq from by have e := h5.trans g5; revert e; cases u.opaq <;> cases v.opaq <;> decide]
              clear h5 g5
              have HCs := Lib.hid (two12 (w := w) (.string u.scheme) (.string u.user) (.string u.pass) (.int .i64 u.kind) (.string u.name) (.int .u32 (u.v4 : Int)) (.int .u16 (u.a0 : Int)) (.int .u16 (u.a1 : Int)) (.int .u16 (u.a2 : Int)) (.int .u16 (u.a3 : Int)) (.int .u16 (u.a4 : Int)) (.int .u16 (u.a5 : Int)) (.int .u16 (u.a6 : Int)) (.int .u16 (u.a7 : Int)) (.int .i64 u.port) (.bool u.opaq) (.slice A n c) (.bool u.hasQ) (.string u.query) (.bool u.hasF) (.string u.frag) (.string v.scheme) (.string v.user) (.string v.pass) (.int .i64 v.kind) (.string v.name) (.int .u32 (v.v4 : Int)) (.int .u16 (v.a0 : Int)) (.int .u16 (v.a1 : Int)) (.int .u16 (v.a2 : Int)) (.int .u16 (v.a3 : Int)) (.int .u16 (v.a4 : Int)) (.int .u16 (v.a5 : Int)) (.int .u16 (v.a6 : Int)) (.int .u16 (v.a7 : Int)) (.int .i64 u.port) (.bool (!u.opaq)) (.slice B m d) (.bool v.hasQ) (.string v.query) (.bool v.hasF) (.string v.frag))
              have HX : Hid (Below w.heap.size w ((w.alloc (.cells #[.string u.scheme, .string u.user, .string u.pass, .int .i64 u.kind, .string u.name, .int .u32 (u.v4 : Int), .int .u16 (u.a0 : Int), .int .u16 (u.a1 : Int), .int .u16 (u.a2 : Int), .int .u16 (u.a3 : Int), .int .u16 (u.a4 : Int), .int .u16 (u.a5 : Int), .int .u16 (u.a6 : Int), .int .u16 (u.a7 : Int), .int .i64 u.port, .bool u.opaq, .slice A n c, .bool u.hasQ, .string u.query, .bool u.hasF, .string u.frag] 29)).alloc (.cells #[.string v.scheme, .string v.user, .string v.pass, .int .i64 v.kind, .string v.name, .int .u32 (v.v4 : Int), .int .u16 (v.a0 : Int), .int .u16 (v.a1 : Int), .int .u16 (v.a2 : Int), .int .u16 (v.a3 : Int), .int .u16 (v.a4 : Int), .int .u16 (v.a5 : Int), .int .u16 (v.a6 : Int), .int .u16 (v.a7 : Int), .int .i64 u.port, .bool (!u.opaq), .slice B m d, .bool v.hasQ, .string v.query, .bool v.hasF, .string v.frag] 29))) := bn12 (bel12 w _) (bel12 _ _)
              have HH := host12_run h3 hu.wee hv.wee
              clear hS hu hv h3
              go_enter Tryd.func15, Tryd.ntmps15
              go_wp2
              all_goals first
                | (go_ret; exact ⟨ret_bool HR.out.symm, HX.out⟩)
                | (exfalso; simp_all; done)
          · have HR : Hid (S = false) := by show S = false; rw [← hS, same12_parts, h4, g4]; simp
            have HCs := Lib.hid (two12 (w := w) (.string u.scheme) (.string u.user) (.string u.pass) (.int .i64 u.kind) (.string u.name) (.int .u32 (u.v4 : Int)) (.int .u16 (u.a0 : Int)) (.int .u16 (u.a1 : Int)) (.int .u16 (u.a2 : Int)) (.int .u16 (u.a3 : Int)) (.int .u16 (u.a4 : Int)) (.int .u16 (u.a5 : Int)) (.int .u16 (u.a6 : Int)) (.int .u16 (u.a7 : Int)) (.int .i64 u.port) (.bool u.opaq) (.slice A n c) (.bool u.hasQ) (.string u.query) (.bool u.hasF) (.string u.frag) (.string v.scheme) (.string v.user) (.string v.pass) (.int .i64 v.kind) (.string v.name) (.int .u32 (v.v4 : Int)) (.int .u16 (v.a0 : Int)) (.int .u16 (v.a1 : Int)) (.int .u16 (v.a2 : Int)) (.int .u16 (v.a3 : Int)) (.int .u16 (v.a4 : Int)) (.int .u16 (v.a5 : Int)) (.int .u16 (v.a6 : Int)) (.int .u16 (v.a7 : Int)) (.int .i64 v.port) (.bool v.opaq) (.slice B m d) (.bool v.hasQ) (.string v.query) (.bool v.hasF) (.string v.frag))
            have HX : Hid (Below w.heap.size w ((w.alloc (.cells #[.string u.scheme, .string u.user, .string u.pass, .int .i64 u.kind, .string u.name, .int .u32 (u.v4 : Int), .int .u16 (u.a0 : Int), .int .u16 (u.a1 : Int), .int .u16 (u.a2 : Int), .int .u16 (u.a3 : Int), .int .u16 (u.a4 : Int), .int .u16 (u.a5 : Int), .int .u16 (u.a6 : Int), .int .u16 (u.a7 : Int), .int .i64 u.port, .bool u.opaq, .slice A n c, .bool u.hasQ, .string u.query, .bool u.hasF, .string u.frag] 29)).alloc (.cells #[.string v.scheme, .string v.user, .string v.pass, .int .i64 v.kind, .string v.name, .int .u32 (v.v4 : Int), .int .u16 (v.a0 : Int), .int .u16 (v.a1 : Int), .int .u16 (v.a2 : Int), .int .u16 (v.a3 : Int), .int .u16 (v.a4 : Int), .int .u16 (v.a5 : Int), .int .u16 (v.a6 : Int), .int .u16 (v.a7 : Int), .int .i64 v.port, .bool v.opaq, .slice B m d, .bool v.hasQ, .string v.query, .bool v.hasF, .string v.frag] 29))) := bn12 (bel12 w _) (bel12 _ _)
            have HH := host12_run h3 hu.wee hv.wee
            clear hS hu hv h3
            go_enter Tryd.func15, Tryd.ntmps15
            go_wp2
            all_goals first
              | (go_ret; exact ⟨ret_bool HR.out.symm, HX.out⟩)
              | (exfalso; simp_all; done)
        · have HR : Hid (S = false) := by show S = false; rw [← hS, same12_parts, h3, g3]; simp
          have HCs := Lib.hid (two12 (w := w) (.string u.scheme) (.string u.user) (.string u.pass) (.int .i64 u.kind) (.string u.name) (.int .u32 (u.v4 : Int)) (.int .u16 (u.a0 : Int)) (.int .u16 (u.a1 : Int)) (.int .u16 (u.a2 : Int)) (.int .u16 (u.a3 : Int)) (.int .u16 (u.a4 : Int)) (.int .u16 (u.a5 : Int)) (.int .u16 (u.a6 : Int)) (.int .u16 (u.a7 : Int)) (.int .i64 u.port) (.bool u.opaq) (.slice A n c) (.bool u.hasQ) (.string u.query) (.bool u.hasF) (.string u.frag) (.string v.scheme) (.string v.user) (.string v.pass) (.int .i64 v.kind) (.string v.name) (.int .u32 (v.v4 : Int)) (.int .u16 (v.a0 : Int)) (.int .u16 (v.a1 : Int)) (.int .u16 (v.a2 : Int)) (.int .u16 (v.a3 : Int)) (.int .u16 (v.a4 : Int)) (.int .u16 (v.a5 : Int)) (.int .u16 (v.a6 : Int)) (.int .u16 (v.a7 : Int)) (.int .i64 v.port) (.bool v.opaq) (.slice B m d) (.bool v.hasQ) (.string v.query) (.bool v.hasF) (.string v.frag))
          have HX : Hid (Below w.heap.size w ((w.alloc (.cells #[.string u.scheme, .string u.user, .string u.pass, .int .i64 u.kind, .string u.name, .int .u32 (u.v4 : Int), .int .u16 (u.a0 : Int), .int .u16 (u.a1 : Int), .int .u16 (u.a2 : Int), .int .u16 (u.a3 : Int), .int .u16 (u.a4 : Int), .int .u16 (u.a5 : Int), .int .u16 (u.a6 : Int), .int .u16 (u.a7 : Int), .int .i64 u.port, .bool u.opaq, .slice A n c, .bool u.hasQ, .string u.query, .bool u.hasF, .string u.frag] 29)).alloc (.cells #[.string v.scheme, .string v.user, .string v.pass, .int .i64 v.kind, .string v.name, .int .u32 (v.v4 : Int), .int .u16 (v.a0 : Int), .int .u16 (v.a1 : Int), .int .u16 (v.a2 : Int), .int .u16 (v.a3 : Int), .int .u16 (v.a4 : Int), .int .u16 (v.a5 : Int), .int .u16 (v.a6 : Int), .int .u16 (v.a7 : Int), .int .i64 v.port, .bool v.opaq, .slice B m d, .bool v.hasQ, .string v.query, .bool v.hasF, .string v.frag] 29))) := bn12 (bel12 w _) (bel12 _ _)
          have HH := host12_run h3 hu.wee hv.wee
          clear hS hu hv h3
          go_enter Tryd.func15, Tryd.ntmps15
          go_wp2
          all_goals first
            | (go_ret; exact ⟨ret_bool HR.out.symm, HX.out⟩)
            | (exfalso; simp_all; done)
      · have HR : Hid (S = false) := by show S = false; rw [← hS, same12_parts, h2, g2]; simp
        have HCs := Lib.hid (two12 (w := w) (.string u.scheme) (.string u.user) (.string u.pass) (.int .i64 u.kind) (.string u.name) (.int .u32 (u.v4 : Int)) (.int .u16 (u.a0 : Int)) (.int .u16 (u.a1 : Int)) (.int .u16 (u.a2 : Int)) (.int .u16 (u.a3 : Int)) (.int .u16 (u.a4 : Int)) (.int .u16 (u.a5 : Int)) (.int .u16 (u.a6 : Int)) (.int .u16 (u.a7 : Int)) (.int .i64 u.port) (.bool u.opaq) (.slice A n c) (.bool u.hasQ) (.string u.query) (.bool u.hasF) (.string u.frag) (.string v.scheme) (.string v.user) (.string v.pass) (.int .i64 v.kind) (.string v.name) (.int .u32 (v.v4 : Int)) (.int .u16 (v.a0 : Int)) (.int .u16 (v.a1 : Int)) (.int .u16 (v.a2 : Int)) (.int .u16 (v.a3 : Int)) (.int .u16 (v.a4 : Int)) (.int .u16 (v.a5 : Int)) (.int .u16 (v.a6 : Int)) (.int .u16 (v.a7 : Int)) (.int .i64 v.port) (.bool v.opaq) (.slice B m d) (.bool v.hasQ) (.string v.query) (.bool v.hasF) (.string v.frag))
        have HX : Hid (Below w.heap.size w ((w.alloc (.cells #[.string u.scheme, .string u.user, .string u.pass, .int .i64 u.kind, .string u.name, .int .u32 (u.v4 : Int), .int .u16 (u.a0 : Int), .int .u16 (u.a1 : Int), .int .u16 (u.a2 : Int), .int .u16 (u.a3 : Int), .int .u16 (u.a4 : Int), .int .u16 (u.a5 : Int), .int .u16 (u.a6 : Int), .int .u16 (u.a7 : Int), .int .i64 u.port, .bool u.opaq, .slice A n c, .bool u.hasQ, .string u.query, .bool u.hasF, .string u.frag] 29)).alloc (.cells #[.string v.scheme, .string v.user, .string v.pass, .int .i64 v.kind, .string v.name, .int .u32 (v.v4 : Int), .int .u16 (v.a0 : Int), .int .u16 (v.a1 : Int), .int .u16 (v.a2 : Int), .int .u16 (v.a3 : Int), .int .u16 (v.a4 : Int), .int .u16 (v.a5 : Int), .int .u16 (v.a6 : Int), .int .u16 (v.a7 : Int), .int .i64 v.port, .bool v.opaq, .slice B m d, .bool v.hasQ, .string v.query, .bool v.hasF, .string v.frag] 29))) := bn12 (bel12 w _) (bel12 _ _)
        clear hS hu hv
        go_enter Tryd.func15, Tryd.ntmps15
        go_wp2
        all_goals first
          | (go_ret; exact ⟨ret_bool HR.out.symm, HX.out⟩)
          | (exfalso; simp_all; done)
    · have HR : Hid (S = false) := by show S = false; rw [← hS, same12_parts, h1, g1]; simp
      have HCs := Lib.hid (two12 (w := w) (.string u.scheme) (.string u.user) (.string u.pass) (.int .i64 u.kind) (.string u.name) (.int .u32 (u.v4 : Int)) (.int .u16 (u.a0 : Int)) (.int .u16 (u.a1 : Int)) (.int .u16 (u.a2 : Int)) (.int .u16 (u.a3 : Int)) (.int .u16 (u.a4 : Int)) (.int .u16 (u.a5 : Int)) (.int .u16 (u.a6 : Int)) (.int .u16 (u.a7 : Int)) (.int .i64 u.port) (.bool u.opaq) (.slice A n c) (.bool u.hasQ) (.string u.query) (.bool u.hasF) (.string u.frag) (.string v.scheme) (.string v.user) (.string v.pass) (.int .i64 v.kind) (.string v.name) (.int .u32 (v.v4 : Int)) (.int .u16 (v.a0 : Int)) (.int .u16 (v.a1 : Int)) (.int .u16 (v.a2 : Int)) (.int .u16 (v.a3 : Int)) (.int .u16 (v.a4 : Int)) (.int .u16 (v.a5 : Int)) (.int .u16 (v.a6 : Int)) (.int .u16 (v.a7 : Int)) (.int .i64 v.port) (.bool v.opaq) (.slice B m d) (.bool v.hasQ) (.string v.query) (.bool v.hasF) (.string v.frag))
      have HX : Hid (Below w.heap.size w ((w.alloc (.cells #[.string u.scheme, .string u.user, .string u.pass, .int .i64 u.kind, .string u.name, .int .u32 (u.v4 : Int), .int .u16 (u.a0 : Int), .int .u16 (u.a1 : Int), .int .u16 (u.a2 : Int), .int .u16 (u.a3 : Int), .int .u16 (u.a4 : Int), .int .u16 (u.a5 : Int), .int .u16 (u.a6 : Int), .int .u16 (u.a7 : Int), .int .i64 u.port, .bool u.opaq, .slice A n c, .bool u.hasQ, .string u.query, .bool u.hasF, .string u.frag] 29)).alloc (.cells #[.string v.scheme, .string v.user, .string v.pass, .int .i64 v.kind, .string v.name, .int .u32 (v.v4 : Int), .int .u16 (v.a0 : Int), .int .u16 (v.a1 : Int), .int .u16 (v.a2 : Int), .int .u16 (v.a3 : Int), .int .u16 (v.a4 : Int), .int .u16 (v.a5 : Int), .int .u16 (v.a6 : Int), .int .u16 (v.a7 : Int), .int .i64 v.port, .bool v.opaq, .slice B m d, .bool v.hasQ, .string v.query, .bool v.hasF, .string v.frag] 29))) := bn12 (bel12 w _) (bel12 _ _)
      clear hS hu hv
      go_enter Tryd.func15, Tryd.ntmps15
      go_wp2
      all_goals first
        | (go_ret; exact ⟨ret_bool HR.out.symm, HX.out⟩)
        | (exfalso; simp_all; done)
  · have HR : Hid (S = false) := by show S = false; rw [← hS, same12_parts, h0, g0]; simp
    have HCs := Lib.hid (two12 (w := w) (.string u.scheme) (.string u.user) (.string u.pass) (.int .i64 u.kind) (.string u.name) (.int .u32 (u.v4 : Int)) (.int .u16 (u.a0 : Int)) (.int .u16 (u.a1 : Int)) (.int .u16 (u.a2 : Int)) (.int .u16 (u.a3 : Int)) (.int .u16 (u.a4 : Int)) (.int .u16 (u.a5 : Int)) (.int .u16 (u.a6 : Int)) (.int .u16 (u.a7 : Int)) (.int .i64 u.port) (.bool u.opaq) (.slice A n c) (.bool u.hasQ) (.string u.query) (.bool u.hasF) (.string u.frag) (.string v.scheme) (.string v.user) (.string v.pass) (.int .i64 v.kind) (.string v.name) (.int .u32 (v.v4 : Int)) (.int .u16 (v.a0 : Int)) (.int .u16 (v.a1 : Int)) (.int .u16 (v.a2 : Int)) (.int .u16 (v.a3 : Int)) (.int .u16 (v.a4 : Int)) (.int .u16 (v.a5 : Int)) (.int .u16 (v.a6 : Int)) (.int .u16 (v.a7 : Int)) (.int .i64 v.port) (.bool v.opaq) (.slice B m d) (.bool v.hasQ) (.string v.query) (.bool v.hasF) (.string v.frag))
    have HX : Hid (Below w.heap.size w ((w.alloc (.cells #[.string u.scheme, .string u.user, .string u.pass, .int .i64 u.kind, .string u.name, .int .u32 (u.v4 : Int), .int .u16 (u.a0 : Int), .int .u16 (u.a1 : Int), .int .u16 (u.a2 : Int), .int .u16 (u.a3 : Int), .int .u16 (u.a4 : Int), .int .u16 (u.a5 : Int), .int .u16 (u.a6 : Int), .int .u16 (u.a7 : Int), .int .i64 u.port, .bool u.opaq, .slice A n c, .bool u.hasQ, .string u.query, .bool u.hasF, .string u.frag] 29)).alloc (.cells #[.string v.scheme, .string v.user, .string v.pass, .int .i64 v.kind, .string v.name, .int .u32 (v.v4 : Int), .int .u16 (v.a0 : Int), .int .u16 (v.a1 : Int), .int .u16 (v.a2 : Int), .int .u16 (v.a3 : Int), .int .u16 (v.a4 : Int), .int .u16 (v.a5 : Int), .int .u16 (v.a6 : Int), .int .u16 (v.a7 : Int), .int .i64 v.port, .bool v.opaq, .slice B m d, .bool v.hasQ, .string v.query, .bool v.hasF, .string v.frag] 29))) := bn12 (bel12 w _) (bel12 _ _)
    clear hS hu hv
    go_enter Tryd.func15, Tryd.ntmps15
    go_wp2
    all_goals first
      | (go_ret; exact ⟨ret_bool HR.out.symm, HX.out⟩)
      | (exfalso; simp_all; done)
theorem rsame12_is {u v : Url12} {b : Bool} (hb : same12 u v = b) {A B : Option Addr} {n m c d : Nat} (w : World) (hu : At12 w u A n c) (hv : At12 w v B m d) :
    Calls Tryd.prog 15 #[.agg #[.string u.scheme, .string u.user, .string u.pass, .int .i64 u.kind, .string u.name, .int .u32 (u.v4 : Int), .int .u16 (u.a0 : Int), .int .u16 (u.a1 : Int), .int .u16 (u.a2 : Int), .int .u16 (u.a3 : Int), .int .u16 (u.a4 : Int), .int .u16 (u.a5 : Int), .int .u16 (u.a6 : Int), .int .u16 (u.a7 : Int), .int .i64 u.port, .bool u.opaq, .slice A n c, .bool u.hasQ, .string u.query, .bool u.hasF, .string u.frag], .agg #[.string v.scheme, .string v.user, .string v.pass, .int .i64 v.kind, .string v.name, .int .u32 (v.v4 : Int), .int .u16 (v.a0 : Int), .int .u16 (v.a1 : Int), .int .u16 (v.a2 : Int), .int .u16 (v.a3 : Int), .int .u16 (v.a4 : Int), .int .u16 (v.a5 : Int), .int .u16 (v.a6 : Int), .int .u16 (v.a7 : Int), .int .i64 v.port, .bool v.opaq, .slice B m d, .bool v.hasQ, .string v.query, .bool v.hasF, .string v.frag]] w fun e w' => e = .returned (.bool b) ∧ Below w.heap.size w w' := hb ▸ refSame12_any u v A B n m c d w hu hv
end Go.Proofs.YtliklhldlofnjaaDoor

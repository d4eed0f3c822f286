/-
  In this text, one behind the other: RecGSame.
-/
import Derived.ArgAppend
import Derived.BigQuiet
import Derived.Deep.AppendLies
import Derived.Deep.DrawnRows
import Derived.Deep.Light
import Derived.Deep.LoopGhost
import Derived.Deep.QuietTactic
import Derived.Deep.RegionHeld3
import Derived.Deep.RegionWith
import Derived.Deep.WholeRow
import Derived.DeepKeys
import Derived.IntWalk
import Derived.LaidEql
import Derived.Laws.AppendOwnNone
import Derived.Laws.BitsLemmas
import Derived.Laws.Cover4
import Derived.Laws.Externs
import Derived.Laws.RangeString
import Derived.Laws.Rows
import Derived.Laws.Runes
import Derived.Laws.Tables
import Derived.Lib.Bytealg
import Derived.Lib.Hide
import Derived.Lib.SliceRun
import Derived.Maps.AppendAt
import Derived.RowKitTokens
import Derived.Shelf.Strings.Builder1
import Derived.Stop.Asserts
import Derived.WalkKit
import Derived.WalkLawsBesides
import Derived.WalkMore
import Derived.WalkSpells
import Derived.Test.YtliklhldlofnjaaDoorRows
import Derived.Test.YtliklhldlofnjaaDoorG28
import Derived.Test.YtliklhldlofnjaaDoorG32
/-
  The program's Same of layer 12, by its contract (written by mkrecg.py).
-/
namespace Go.Proofs.YtliklhldlofnjaaDoor
open Go.RowKit

set_option maxHeartbeats 8000000 in
set_option maxRecDepth 100000 in
theorem psame12_any (u v : Url12) (A B : Option Addr) (n m c d : Nat) (w : World) (hu : At12 w u A n c) (hv : At12 w v B m d) :
    Calls Tryd.prog 14 #[.agg #[.string u.scheme, .string u.user, .string u.pass, .int .i64 u.kind, .string u.name, .int .u32 (u.v4 : Int), .int .u16 (u.a0 : Int), .int .u16 (u.a1 : Int), .int .u16 (u.a2 : Int), .int .u16 (u.a3 : Int), .int .u16 (u.a4 : Int), .int .u16 (u.a5 : Int), .int .u16 (u.a6 : Int), .int .u16 (u.a7 : Int), .int .i64 u.port, .bool u.opaq, .slice A n c, .bool u.hasQ, .string u.query, .bool u.hasF, .string u.frag], .agg #[.string v.scheme, .string v.user, .string v.pass, .int .i64 v.kind, .string v.name, .int .u32 (v.v4 : Int), .int .u16 (v.a0 : Int), .int .u16 (v.a1 : Int), .int .u16 (v.a2 : Int), .int .u16 (v.a3 : Int), .int .u16 (v.a4 : Int), .int .u16 (v.a5 : Int), .int .u16 (v.a6 : Int), .int .u16 (v.a7 : Int), .int .i64 v.port, .bool v.opaq, .slice B m d, .bool v.hasQ, .string v.query, .bool v.hasF, .string v.frag]] w fun e w' => e = .returned (.bool (same12 u v)) ∧ Below w.heap.size w w' := by
  obtain ⟨S, hS⟩ : ∃ S, same12 u v = S := ⟨_, rfl⟩
  rw [hS]
  obtain ⟨b0, h0⟩ : ∃ b, (u.scheme.toList == v.scheme.toList) = b := ⟨_, rfl⟩
  rcases Bool.eq_false_or_eq_true b0 with g0 | g0
  · have Q0 := Lib.hid (h0.trans g0)
    obtain ⟨b1, h1⟩ : ∃ b, (u.user.toList == v.user.toList) = b := ⟨_, rfl⟩
    rcases Bool.eq_false_or_eq_true b1 with g1 | g1
    · have Q1 := Lib.hid (h1.trans g1)
      obtain ⟨b2, h2⟩ : ∃ b, (u.pass.toList == v.pass.toList) = b := ⟨_, rfl⟩
      rcases Bool.eq_false_or_eq_true b2 with g2 | g2
      · have Q2 := Lib.hid (h2.trans g2)
        obtain ⟨b3, h3⟩ : ∃ b, (host12 u v) = b := ⟨_, rfl⟩
        rcases Bool.eq_false_or_eq_true b3 with g3 | g3
        · have Q3 := Lib.hid (h3.trans g3)
          obtain ⟨b4, h4⟩ : ∃ b, (u.port == v.port) = b := ⟨_, rfl⟩
          rcases Bool.eq_false_or_eq_true b4 with g4 | g4
          · have Q4 := Lib.hid (h4.trans g4)
            rw [show v.port = u.port from (eq_of_beq Q4.out).symm]
            clear h4 g4
            obtain ⟨b5, h5⟩ : ∃ b, (u.opaq == v.opaq) = b := ⟨_, rfl⟩
            rcases Bool.eq_false_or_eq_true b5 with g5 | g5
            · have Q5 := Lib.hid (h5.trans g5)
              rw [show v.opaq = u.opaq from (eq_of_beq Q5.out).symm]
              clear h5 g5
              obtain ⟨b6, h6⟩ : ∃ b, (decide (u.path = v.path)) = b := ⟨_, rfl⟩
              rcases Bool.eq_false_or_eq_true b6 with g6 | g6
              · have Q6 := Lib.hid (h6.trans g6)
                obtain ⟨b7, h7⟩ : ∃ b, (u.hasQ == v.hasQ) = b := ⟨_, rfl⟩
                rcases Bool.eq_false_or_eq_true b7 with g7 | g7
                · have Q7 := Lib.hid (h7.trans g7)
                  rw [show v.hasQ = u.hasQ from (eq_of_beq Q7.out).symm]
                  clear h7 g7
                  obtain ⟨b8, h8⟩ : ∃ b, (u.query.toList == v.query.toList) = b := ⟨_, rfl⟩
                  rcases Bool.eq_false_or_eq_true b8 with g8 | g8
                  · have Q8 := Lib.hid (h8.trans g8)
                    obtain ⟨b9, h9⟩ : ∃ b, (u.hasF == v.hasF) = b := ⟨_, rfl⟩
                    rcases Bool.eq_false_or_eq_true b9 with g9 | g9
                    · have Q9 := Lib.hid (h9.trans g9)
                      rw [show v.hasF = u.hasF from (eq_of_beq Q9.out).symm]
                      clear h9 g9
                      obtain ⟨b10, h10⟩ : ∃ b, (u.frag.toList == v.frag.toList) = b := ⟨_, rfl⟩
                      rcases Bool.eq_false_or_eq_true b10 with g10 | g10
                      · have Q10 := Lib.hid (h10.trans g10)
                        have HR : Hid (S = true) := by show S = true; rw [← hS, same12_parts, Q0.out, Q1.out, Q2.out, Q3.out, Q4.out, Q5.out, Q6.out, Q7.out, Q8.out, Q9.out, Q10.out]; rfl
                        have HCs := Lib.hid (two12 (w := w) (.string u.scheme) (.string u.user) (.string u.pass) (.int .i64 u.kind) (.string u.name) (.int .u32 (u.v4 : Int)) (.int .u16 (u.a0 : Int)) (.int .u16 (u.a1 : Int)) (.int .u16 (u.a2 : Int)) (.int .u16 (u.a3 : Int)) (.int .u16 (u.a4 : Int)) (.int .u16 (u.a5 : Int)) (.int .u16 (u.a6 : Int)) (.int .u16 (u.a7 : Int)) (.int .i64 u.port) (.bool u.opaq) (.slice A n c) (.bool u.hasQ) (.string u.query) (.bool u.hasF) (.string u.frag) (.string v.scheme) (.string v.user) (.string v.pass) (.int .i64 v.kind) (.string v.name) (.int .u32 (v.v4 : Int)) (.int .u16 (v.a0 : Int)) (.int .u16 (v.a1 : Int)) (.int .u16 (v.a2 : Int)) (.int .u16 (v.a3 : Int)) (.int .u16 (v.a4 : Int)) (.int .u16 (v.a5 : Int)) (.int .u16 (v.a6 : Int)) (.int .u16 (v.a7 : Int)) (.int .i64 u.port) (.bool u.opaq) (.slice B m d) (.bool u.hasQ) (.string v.query) (.bool u.hasF) (.string v.frag))
                        have HX : Hid (Below w.heap.size w ((w.alloc (.cells #[.string u.scheme, .string u.user, .string u.pass, .int .i64 u.kind, .string u.name, .int .u32 (u.v4 : Int), .int .u16 (u.a0 : Int), .int .u16 (u.a1 : Int), .int .u16 (u.a2 : Int), .int .u16 (u.a3 : Int), .int .u16 (u.a4 : Int), .int .u16 (u.a5 : Int), .int .u16 (u.a6 : Int), .int .u16 (u.a7 : Int), .int .i64 u.port, .bool u.opaq, .slice A n c, .bool u.hasQ, .string u.query, .bool u.hasF, .string u.frag] 29)).alloc (.cells #[.string v.scheme, .string v.user, .string v.pass, .int .i64 v.kind, .string v.name, .int .u32 (v.v4 : Int), .int .u16 (v.a0 : Int), .int .u16 (v.a1 : Int), .int .u16 (v.a2 : Int), .int .u16 (v.a3 : Int), .int .u16 (v.a4 : Int), .int .u16 (v.a5 : Int), .int .u16 (v.a6 : Int), .int .u16 (v.a7 : Int), .int .i64 u.port, .bool u.opaq, .slice B m d, .bool u.hasQ, .string v.query, .bool u.hasF, .string v.frag] 29))) := bn12 (bel12 w _) (bel12 _ _)
                        have HH := host12_run h3 hu.wee hv.wee
                        have HSu := Lib.hid (hu.segs.below HX.out)
                        have HSv := Lib.hid (hv.segs.below HX.out)
                        have HP := Lib.hid (fun w h g => lists12_is (A := A) (B := B) (c := c) (d := d) h6 hu.len hv.len (by have := hu.wee.len; have := hu.len; omega) w h g)
                        clear hS hu hv h3 h6
                        go_enter Tryd.func14, Tryd.ntmps14
                        go_wp2_with (go_at_call 24; (with_reducible refine (HP.out _ HSu.out HSv.out).mono ?_); rintro e w1 ⟨rfl, hb⟩; (obtain ⟨⟨s0, s14, s15, s16, s17, s18, s19, s20⟩, t0, t14, t15, t16, t17, t18, t19, t20⟩ := HCs.out _ hb); have HB := Lib.hid hb; clear hb)
                        all_goals first
                          | (go_ret; exact ⟨ret_bool HR.out.symm, HX.out.trans (HB.out.mono HX.out.size)⟩)
                          | (exfalso; simp_all; done)
                      · have HR : Hid (S = false) := by show S = false; rw [← hS, same12_parts, h10, g10]; simp
                        have HCs := Lib.hid (two12 (w := w) (.string u.scheme) (.string u.user) (.string u.pass) (.int .i64 u.kind) (.string u.name) (.int .u32 (u.v4 : Int)) (.int .u16 (u.a0 : Int)) (.int .u16 (u.a1 : Int)) (.int .u16 (u.a2 : Int)) (.int .u16 (u.a3 : Int)) (.int .u16 (u.a4 : Int)) (.int .u16 (u.a5 : Int)) (.int .u16 (u.a6 : Int)) (.int .u16 (u.a7 : Int)) (.int .i64 u.port) (.bool u.opaq) (.slice A n c) (.bool u.hasQ) (.string u.query) (.bool u.hasF) (.string u.frag) (.string v.scheme) (.string v.user) (.string v.pass) (.int .i64 v.kind) (.string v.name) (.int .u32 (v.v4 : Int)) (.int .u16 (v.a0 : Int)) (.int .u16 (v.a1 : Int)) (.int .u16 (v.a2 : Int)) (.int .u16 (v.a3 : Int)) (.int .u16 (v.a4 : Int)) (.int .u16 (v.a5 : Int)) (.int .u16 (v.a6 : Int)) (.int .u16 (v.a7 : Int)) (.int .i64 u.port) (.bool u.opaq) (.slice B m d) (.bool u.hasQ) (.string v.query) (.bool u.hasF) (.string v.frag))
                        have HX : Hid (Below w.heap.size w ((w.alloc (.cells #[.string u.scheme, .string u.user, .string u.pass, .int .i64 u.kind, .string u.name, .int .u32 (u.v4 : Int), .int .u16 (u.a0 : Int), .int .u16 (u.a1 : Int), .int .u16 (u.a2 : Int), .int .u16 (u.a3 : Int), .int .u16 (u.a4 : Int), .int .u16 (u.a5 : Int), .int .u16 (u.a6 : Int), .int .u16 (u.a7 : Int), .int .i64 u.port, .bool u.opaq, .slice A n c, .bool u.hasQ, .string u.query, .bool u.hasF, .string u.frag] 29)).alloc (.cells #[.string v.scheme, .string v.user, .string v.pass, .int .i64 v.kind, .string v.name, .int .u32 (v.v4 : Int), .int .u16 (v.a0 : Int), .int .u16 (v.a1 : Int), .int .u16 (v.a2 : Int), .int .u16 (v.a3 : Int), .int .u16 (v.a4 : Int), .int .u16 (v.a5 : Int), .int .u16 (v.a6 : Int), .int .u16 (v.a7 : Int), .int .i64 u.port, .bool u.opaq, .slice B m d, .bool u.hasQ, .string v.query, .bool u.hasF, .string v.frag] 29))) := bn12 (bel12 w _) (bel12 _ _)
                        have HH := host12_run h3 hu.wee hv.wee
                        have HSu := Lib.hid (hu.segs.below HX.out)
                        have HSv := Lib.hid (hv.segs.below HX.out)
                        have HP := Lib.hid (fun w h g => lists12_is (A := A) (B := B) (c := c) (d := d) h6 hu.len hv.len (by have := hu.wee.len; have := hu.len; omega) w h g)
                        clear hS hu hv h3 h6
                        go_enter Tryd.func14, Tryd.ntmps14
                        go_wp2_with (go_at_call 24; (with_reducible refine (HP.out _ HSu.out HSv.out).mono ?_); rintro e w1 ⟨rfl, hb⟩; (obtain ⟨⟨s0, s14, s15, s16, s17, s18, s19, s20⟩, t0, t14, t15, t16, t17, t18, t19, t20⟩ := HCs.out _ hb); have HB := Lib.hid hb; clear hb)
                        all_goals first
                          | (go_ret; exact ⟨ret_bool HR.out.symm, HX.out.trans (HB.out.mono HX.out.size)⟩)
                          | (exfalso; simp_all; done)
                    · have HR : Hid (S = false) := by show S = false; rw [← hS, same12_parts, h9, g9]; simp
                      have HCs := Lib.hid (two12 (w := w) (.string u.scheme) (.string u.user) (.string u.pass) (.int .i64 u.kind) (.string u.name) (.int .u32 (u.v4 : Int)) (.int .u16 (u.a0 : Int)) (.int .u16 (u.a1 : Int)) (.int .u16 (u.a2 : Int)) (.int .u16 (u.a3 : Int)) (.int .u16 (u.a4 : Int)) (.int .u16 (u.a5 : Int)) (.int .u16 (u.a6 : Int)) (.int .u16 (u.a7 : Int)) (.int .i64 u.port) (.bool u.opaq) (.slice A n c) (.bool u.hasQ) (.string u.query) (.bool u.hasF) (.string u.frag) (.string v.scheme) (.string v.user) (.string v.pass) (.int .i64 v.kind) (.string v.name) (.int .u32 (v.v4 : Int)) (.int .u16 (v.a0 : Int)) (.int .u16 (v.a1 : Int)) (.int .u16 (v.a2 : Int)) (.int .u16 (v.a3 : Int)) (.int .u16 (v.a4 : Int)) (.int .u16 (v.a5 : Int)) (.int .u16 (v.a6 : Int)) (.int .u16 (v.a7 : Int)) (.int .i64 u.port) (.bool u.opaq) (.slice B m d) (.bool u.hasQ) (.string v.query) (.bool v.hasF) (.string v.frag))
                      have HX : Hid (Below w.heap.size w ((w.alloc (.cells #[.string u.scheme, .string u.user, .string u.pass, .int .i64 u.kind, .string u.name, .int .u32 (u.v4 : Int), .int .u16 (u.a0 : Int), .int .u16 (u.a1 : Int), .int .u16 (u.a2 : Int), .int .u16 (u.a3 : Int), .int .u16 (u.a4 : Int), .int .u16 (u.a5 : Int), .int .u16 (u.a6 : Int), .int .u16 (u.a7 : Int), .int .i64 u.port, .bool u.opaq, .slice A n c, .bool u.hasQ, .string u.query, .bool u.hasF, .string u.frag] 29)).alloc (.cells #[.string v.scheme, .string v.user, .string v.pass, .int .i64 v.kind, .string v.name, .int .u32 (v.v4 : Int), .int .u16 (v.a0 : Int), .int .u16 (v.a1 : Int), .int .u16 (v.a2 : Int), .int .u16 (v.a3 : Int), .int .u16 (v.a4 : Int), .int .u16 (v.a5 : Int), .int .u16 (v.a6 : Int), .int .u16 (v.a7 : Int), .int .i64 u.port, .bool u.opaq, .slice B m d, .bool u.hasQ, .string v.query, .bool v.hasF, .string v.frag] 29))) := bn12 (bel12 w _) (bel12 _ _)
                      have HH := host12_run h3 hu.wee hv.wee
                      have HSu := Lib.hid (hu.segs.below HX.out)
                      have HSv := Lib.hid (hv.segs.below HX.out)
                      have HP := Lib.hid (fun w h g => lists12_is (A := A) (B := B) (c := c) (d := d) h6 hu.len hv.len (by have := hu.wee.len; have := hu.len; omega) w h g)
                      clear hS hu hv h3 h6
                      go_enter Tryd.func14, Tryd.ntmps14
                      go_wp2_with (go_at_call 24; (with_reducible refine (HP.out _ HSu.out HSv.out).mono ?_); rintro e w1 ⟨rfl, hb⟩; (obtain ⟨⟨s0, s14, s15, s16, s17, s18, s19, s20⟩, t0, t14, t15, t16, t17, t18, t19, t20⟩ := HCs.out _ hb); have HB := Lib.hid hb; clear hb)
                      all_goals first
                        | (go_ret; exact ⟨ret_bool HR.out.symm, HX.out.trans (HB.out.mono HX.out.size)⟩)
                        | (exfalso; simp_all; done)
                  · have HR : Hid (S = false) := by show S = false; rw [← hS, same12_parts, h8, g8]; simp
                    have HCs := Lib.hid (two12 (w := w) (.string u.scheme) (.string u.user) (.string u.pass) (.int .i64 u.kind) (.string u.name) (.int .u32 (u.v4 : Int)) (.int .u16 (u.a0 : Int)) (.int .u16 (u.a1 : Int)) (.int .u16 (u.a2 : Int)) (.int .u16 (u.a3 : Int)) (.int .u16 (u.a4 : Int)) (.int .u16 (u.a5 : Int)) (.int .u16 (u.a6 : Int)) (.int .u16 (u.a7 : Int)) (.int .i64 u.port) (.bool u.opaq) (.slice A n c) (.bool u.hasQ) (.string u.query) (.bool u.hasF) (.string u.frag) (.string v.scheme) (.string v.user) (.string v.pass) (.int .i64 v.kind) (.string v.name) (.int .u32 (v.v4 : Int)) (.int .u16 (v.a0 : Int)) (.int .u16 (v.a1 : Int)) (.int .u16 (v.a2 : Int)) (.int .u16 (v.a3 : Int)) (.int .u16 (v.a4 : Int)) (.int .u16 (v.a5 : Int)) (.int .u16 (v.a6 : Int)) (.int .u16 (v.a7 : Int)) (.int .i64 u.port) (.bool u.opaq) (.slice B m d) (.bool u.hasQ) (.string v.query) (.bool v.hasF) (.string v.frag))
                    have HX : Hid (Below w.heap.size w ((w.alloc (.cells #[.string u.scheme, .string u.user, .string u.pass, .int .i64 u.kind, .string u.name, .int .u32 (u.v4 : Int), .int .u16 (u.a0 : Int), .int .u16 (u.a1 : Int), .int .u16 (u.a2 : Int), .int .u16 (u.a3 : Int), .int .u16 (u.a4 : Int), .int .u16 (u.a5 : Int), .int .u16 (u.a6 : Int), .int .u16 (u.a7 : Int), .int .i64 u.port, .bool u.opaq, .slice A n c, .bool u.hasQ, .string u.query, .bool u.hasF, .string u.frag] 29)).alloc (.cells #[.string v.scheme, .string v.user, .string v.pass, .int .i64 v.kind, .string v.name, .int .u32 (v.v4 : Int), .int .u16 (v.a0 : Int), .int .u16 (v.a1 : Int), .int .u16 (v.a2 : Int), .int .u16 (v.a3 : Int), .int .u16 (v.a4 : Int), .int .u16 (v.a5 : Int), .int .u16 (v.a6 : Int), .int .u16 (v.a7 : Int), .int .i64 u.port, .bool u.opaq, .slice B m d, .bool u.hasQ, .string v.query, .bool v.hasF, .string v.frag] 29))) := bn12 (bel12 w _) (bel12 _ _)
                    have HH := host12_run h3 hu.wee hv.wee
                    have HSu := Lib.hid (hu.segs.below HX.out)
                    have HSv := Lib.hid (hv.segs.below HX.out)
                    have HP := Lib.hid (fun w h g => lists12_is (A := A) (B := B) (c := c) (d := d) h6 hu.len hv.len (by have := hu.wee.len; have := hu.len; omega) w h g)
                    clear hS hu hv h3 h6
                    go_enter Tryd.func14, Tryd.ntmps14
                    go_wp2_with (go_at_call 24; (with_reducible refine (HP.out _ HSu.out HSv.out).mono ?_); rintro e w1 ⟨rfl, hb⟩; (obtain ⟨⟨s0, s14, s15, s16, s17, s18, s19, s20⟩, t0, t14, t15, t16, t17, t18, t19, t20⟩ := HCs.out _ hb); have HB := Lib.hid hb; clear hb)
                    all_goals first
                      | (go_ret; exact ⟨ret_bool HR.out.symm, HX.out.trans (HB.out.mono HX.out.size)⟩)
                      | (exfalso; simp_all; done)
                · have HR : Hid (S = false) := by show S = false; rw [← hS, same12_parts, h7, g7]; simp
                  have HCs := Lib.hid (two12 (w := w) (.string u.scheme) (.string u.user) (.string u.pass) (.int .i64 u.kind) (.string u.name) (.int .u32 (u.v4 : Int)) (.int .u16 (u.a0 : Int)) (.int .u16 (u.a1 : Int)) (.int .u16 (u.a2 : Int)) (.int .u16 (u.a3 : Int)) (.int .u16 (u.a4 : Int)) (.int .u16 (u.a5 : Int)) (.int .u16 (u.a6 : Int)) (.int .u16 (u.a7 : Int)) (.int .i64 u.port) (.bool u.opaq) (.slice A n c) (.bool u.hasQ) (.string u.query) (.bool u.hasF) (.string u.frag) (.string v.scheme) (.string v.user) (.string v.pass) (.int .i64 v.kind) (.string v.name) (.int .u32 (v.v4 : Int)) (.int .u16 (v.a0 : Int)) (.int .u16 (v.a1 : Int)) (.int .u16 (v.a2 : Int)) (.int .u16 (v.a3 : Int)) (.int .u16 (v.a4 : Int)) (.int .u16 (v.a5 : Int)) (.int .u16 (v.a6 : Int)) (.int .u16 (v.a7 : Int)) (.int .i64 u.port) (.bool u.opaq) (.slice B m d) (.bool v.hasQ) (.string v.query) (.bool v.hasF) (.string v.frag))
                  have HX : Hid (Below w.heap.size w ((w.alloc (.cells #[.string u.scheme, .string u.user, .string u.pass, .int .i64 u.kind, .string u.name, .int .u32 (u.v4 : Int), .int .u16 (u.a0 : Int), .int .u16 (u.a1 : Int), .int .u16 (u.a2 : Int), .int .u16 (u.a3 : Int), .int .u16 (u.a4 : Int), .int .u16 (u.a5 : Int), .int .u16 (u.a6 : Int), .int .u16 (u.a7 : Int), .int .i64 u.port, .bool u.opaq, .slice A n c, .bool u.hasQ, .string u.query, .bool u.hasF, .string u.frag] 29)).alloc (.cells #[.string v.scheme, .string v.user, .string v.pass, .int .i64 v.kind, .string v.name, .int .u32 (v.v4 : Int), .int .u16 (v.a0 : Int), .int .u16 (v.a1 : Int), .int .u16 (v.a2 : Int), .int .u16 (v.a3 : Int), .int .u16 (v.a4 : Int), .int .u16 (v.a5 : Int), .int .u16 (v.a6 : Int), .int .u16 (v.a7 : Int), .int .i64 u.port, .bool u.opaq, .slice B m d, .bool v.hasQ, .string v.query, .bool v.hasF, .string v.frag] 29))) := bn12 (bel12 w _) (bel12 _ _)
                  have HH := host12_run h3 hu.wee hv.wee
                  have HSu := Lib.hid (hu.segs.below HX.out)
                  have HSv := Lib.hid (hv.segs.below HX.out)
                  have HP := Lib.hid (fun w h g => lists12_is (A := A) (B := B) (c := c) (d := d) h6 hu.len hv.len (by have := hu.wee.len; have := hu.len; omega) w h g)
                  clear hS hu hv h3 h6
                  go_enter Tryd.func14, Tryd.ntmps14
                  go_wp2_with (go_at_call 24; (with_reducible refine (HP.out _ HSu.out HSv.out).mono ?_); rintro e w1 ⟨rfl, hb⟩; (obtain ⟨⟨s0, s14, s15, s16, s17, s18, s19, s20⟩, t0, t14, t15, t16, t17, t18, t19, t20⟩ := HCs.out _ hb); have HB := Lib.hid hb; clear hb)
                  all_goals first
                    | (go_ret; exact ⟨ret_bool HR.out.symm, HX.out.trans (HB.out.mono HX.out.size)⟩)
                    | (exfalso; simp_all; done)
              · have HR : Hid (S = false) := by show S = false; rw [← hS, same12_parts, h6, g6]; simp
                have HCs := Lib.hid (two12 (w := w) (.string u.scheme) (.string u.user) (.string u.pass) (.int .i64 u.kind) (.string u.name) (.int .u32 (u.v4 : Int)) (.int .u16 (u.a0 : Int)) (.int .u16 (u.a1 : Int)) (.int .u16 (u.a2 : Int)) (.int .u16 (u.a3 : Int)) (.int .u16 (u.a4 : Int)) (.int .u16 (u.a5 : Int)) (.int .u16 (u.a6 : Int)) (.int .u16 (u.a7 : Int)) (.int .i64 u.port) (.bool u.opaq) (.slice A n c) (.bool u.hasQ) (.string u.query) (.bool u.hasF) (.string u.frag) (.string v.scheme) (.string v.user) (.string v.pass) (.int .i64 v.kind) (.string v.name) (.int .u32 (v.v4 : Int)) (.int .u16 (v.a0 : Int)) (.int .u16 (v.a1 : Int)) (.int .u16 (v.a2 : Int)) (.int .u16 (v.a3 : Int)) (.int .u16 (v.a4 : Int)) (.int .u16 (v.a5 : Int)) (.int .u16 (v.a6 : Int)) (.int .u16 (v.a7 : Int)) (.int .i64 u.port) (.bool u.opaq) (.slice B m d) (.bool v.hasQ) (.string v.query) (.bool v.hasF) (.string v.frag))
                have HX : Hid (Below w.heap.size w ((w.alloc (.cells #[.string u.scheme, .string u.user, .string u.pass, .int .i64 u.kind, .string u.name, .int .u32 (u.v4 : Int), .int .u16 (u.a0 : Int), .int .u16 (u.a1 : Int), .int .u16 (u.a2 : Int), .int .u16 (u.a3 : Int), .int .u16 (u.a4 : Int), .int .u16 (u.a5 : Int), .int .u16 (u.a6 : Int), .int .u16 (u.a7 : Int), .int .i64 u.port, .bool u.opaq, .slice A n c, .bool u.hasQ, .string u.query, .bool u.hasF, .string u.frag] 29)).alloc (.cells #[.string v.scheme, .string v.user, .string v.pass, .int .i64 v.kind, .string v.name, .int .u32 (v.v4 : Int), .int .u16 (v.a0 : Int), .int .u16 (v.a1 : Int), .int .u16 (v.a2 : Int), .int .u16 (v.a3 : Int), .int .u16 (v.a4 : Int), .int .u16 (v.a5 : Int), .int .u16 (v.a6 : Int), .int .u16 (v.a7 : Int), .int .i64 u.port, .bool u.opaq, .slice B m d, .bool v.hasQ, .string v.query, .bool v.hasF, .string v.frag] 29))) := bn12 (bel12 w _) (bel12 _ _)
                have HH := host12_run h3 hu.wee hv.wee
                have HSu := Lib.hid (hu.segs.below HX.out)
                have HSv := Lib.hid (hv.segs.below HX.out)
                have HP := Lib.hid (fun w h g => lists12_is (A := A) (B := B) (c := c) (d := d) h6 hu.len hv.len (by have := hu.wee.len; have := hu.len; omega) w h g)
                clear hS hu hv h3 h6
                go_enter Tryd.func14, Tryd.ntmps14
                go_wp2_with (go_at_call 24; (with_reducible refine (HP.out _ HSu.out HSv.out).mono ?_); rintro e w1 ⟨rfl, hb⟩; (obtain ⟨⟨s0, s14, s15, s16, s17, s18, s19, s20⟩, t0, t14, t15, t16, t17, t18, t19, t20⟩ := HCs.out _ hb); have HB := Lib.hid hb; clear hb)
                all_goals first
                  | (go_ret; exact ⟨ret_bool HR.out.symm, HX.out.trans (HB.out.mono HX.out.size)⟩)
                  | (exfalso; simp_all; done)
            · have HR : Hid (S = false) := by show S = false; rw [← hS, same12_parts, h5, g5]; simp
              rw [show v.opaq = !u.opaq from by have e := h5.trans g5; revert e; cases u.opaq <;> cases v.opaq <;> decide]
              clear h5 g5
              have HCs := Lib.hid (two12 (w := w) (.string u.scheme) (.string u.user) (.string u.pass) (.int .i64 u.kind) (.string u.name) (.int .u32 (u.v4 : Int)) (.int .u16 (u.a0 : Int)) (.int .u16 (u.a1 : Int)) (.int .u16 (u.a2 : Int)) (.int .u16 (u.a3 : Int)) (.int .u16 (u.a4 : Int)) (.int .u16 (u.a5 : Int)) (.int .u16 (u.a6 : Int)) (.int .u16 (u.a7 : Int)) (.int .i64 u.port) (.bool u.opaq) (.slice A n c) (.bool u.hasQ) (.string u.query) (.bool u.hasF) (.string u.frag) (.string v.scheme) (.string v.user) (.string v.pass) (.int .i64 v.kind) (.string v.name) (.int .u32 (v.v4 : Int)) (.int .u16 (v.a0 : Int)) (.int .u16 (v.a1 : Int)) (.int .u16 (v.a2 : Int)) (.int .u16 (v.a3 : Int)) (.int .u16 (v.a4 : Int)) (.int .u16 (v.a5 : Int)) (.int .u16 (v.a6 : Int)) (.int .u16 (v.a7 : Int)) (.int .i64 u.port) (.bool (!u.opaq)) (.slice B m d) (.bool v.hasQ) (.string v.query) (.bool v.hasF) (.string v.frag))
              have HX : Hid (Below w.heap.size w ((w.alloc (.cells #[.string u.scheme, .string u.user, .string u.pass, .int .i64 u.kind, .string u.name, .int .u32 (u.v4 : Int), .int .u16 (u.a0 : Int), .int .u16 (u.a1 : Int), .int .u16 (u.a2 : Int), .int .u16 (u.a3 : Int), .int .u16 (u.a4 : Int), .int .u16 (u.a5 : Int), .int .u16 (u.a6 : Int), .int .u16 (u.a7 : Int), .int .i64 u.port, .bool u.opaq, .slice A n c, .bool u.hasQ, .string u.query, .bool u.hasF, .string u.frag] 29)).alloc (.cells #[.string v.scheme, .string v.user, .string v.pass, .int .i64 v.kind, .string v.name, .int .u32 (v.v4 : Int), .int .u16 (v.a0 : Int), .int .u16 (v.a1 : Int), .int .u16 (v.a2 : Int), .int .u16 (v.a3 : Int), .int .u16 (v.a4 : Int), .int .u16 (v.a5 : Int), .int .u16 (v.a6 : Int), .int .u16 (v.a7 : Int), .int .i64 u.port, .bool (!u.opaq), .slice B m d, .bool v.hasQ, .string v.query, .bool v.hasF, .string v.frag] 29))) := bn12 (bel12 w _) (bel12 _ _)
              have HH := host12_run h3 hu.wee hv.wee
              clear hS hu hv h3
              go_enter Tryd.func14, Tryd.ntmps14
              go_wp2
              all_goals first
                | (go_ret; exact ⟨ret_bool HR.out.symm, HX.out⟩)
                | (exfalso; simp_all; done)
          · have HR : Hid (S = false) := by show S = false; rw [← hS, same12_parts, h4, g4]; simp
            have HCs := Lib.hid (two12 (w := w) (.string u.scheme) (.string u.user) (.string u.pass) (.int .i64 u.kind) (.string u.name) (.int .u32 (u.v4 : Int)) (.int .u16 (u.a0 : Int)) (.int .u16 (u.a1 : Int)) (.int .u16 (u.a2 : Int)) (.int .u16 (u.a3 : Int)) (.int .u16 (u.a4 : Int)) (.int .u16 (u.a5 : Int)) (.int .u16 (u.a6 : Int)) (.int .u16 (u.a7 : Int)) (.int .i64 u.port) (.bool u.opaq) (.slice A n c) (.bool u.hasQ) (.string u.query) (.bool u.hasF) (.string u.frag) (.string v.scheme) (.string v.user) (.string v.pass) (.int .i64 v.kind) (.string v.name) (.int .u32 (v.v4 : Int)) (.int .u16 (v.a0 : Int)) (.int .u16 (v.a1 : Int)) (.int .u16 (v.a2 : Int)) (.int .u16 (v.a3 : Int)) (.int .u16 (v.a4 : Int)) (.int .u16 (v.a5 : Int)) (.int .u16 (v.a6 : Int)) (.int .u16 (v.a7 : Int)) (.int .i64 v.port) (.bool v.opaq) (.slice B m d) (.bool v.hasQ) (.string v.query) (.bool v.hasF) (.string v.frag))
            have HX : Hid (Below w.heap.size w ((w.alloc (.cells #[.string u.scheme, .string u.user, .string u.pass, .int .i64 u.kind, .string u.name, .int .u32 (u.v4 : Int), .int .u16 (u.a0 : Int), .int .u16 (u.a1 : Int), .int .u16 (u.a2 : Int), .int .u16 (u.a3 : Int), .int .u16 (u.a4 : Int), .int .u16 (u.a5 : Int), .int .u16 (u.a6 : Int), .int .u16 (u.a7 : Int), .int .i64 u.port, .bool u.opaq, .slice A n c, .bool u.hasQ, .string u.query, .bool u.hasF, .string u.frag] 29)).alloc (.cells #[.string v.scheme, .string v.user, .string v.pass, .int .i64 v.kind, .string v.name, .int .u32 (v.v4 : Int), .int .u16 (v.a0 : Int), .int .u16 (v.a1 : Int), .int .u16 (v.a2 : Int), .int .u16 (v.a3 : Int), .int .u16 (v.a4 : Int), .int .u16 (v.a5 : Int), .int .u16 (v.a6 : Int), .int .u16 (v.a7 : Int), .int .i64 v.port, .bool v.opaq, .slice B m d, .bool v.hasQ, .string v.query, .bool v.hasF, .string v.frag] 29))) := bn12 (bel12 w _) (bel12 _ _)
            have HH := host12_run h3 hu.wee hv.wee
            clear hS hu hv h3
            go_enter Tryd.func14, Tryd.ntmps14
            go_wp2
            all_goals first
              | (go_ret; exact ⟨ret_bool HR.out.symm, HX.out⟩)
              | (exfalso; simp_all; done)
        · have HR : Hid (S = false) := by show S = false; rw [← hS, same12_parts, h3, g3]; simp
          have HCs := Lib.hid (two12 (w := w) (.string u.scheme) (.string u.user) (.string u.pass) (.int .i64 u.kind) (.string u.name) (.int .u32 (u.v4 : Int)) (.int .u16 (u.a0 : Int)) (.int .u16 (u.a1 : Int)) (.int .u16 (u.a2 : Int)) (.int .u16 (u.a3 : Int)) (.int .u16 (u.a4 : Int)) (.int .u16 (u.a5 : Int)) (.int .u16 (u.a6 : Int)) (.int .u16 (u.a7 : Int)) (.int .i64 u.port) (.bool u.opaq) (.slice A n c) (.bool u.hasQ) (.string u.query) (.bool u.hasF) (.string u.frag) (.string v.scheme) (.string v.user) (.string v.pass) (.int .i64 v.kind) (.string v.name) (.int .u32 (v.v4 : Int)) (.int .u16 (v.a0 : Int)) (.int .u16 (v.a1 : Int)) (.int .u16 (v.a2 : Int)) (.int .u16 (v.a3 : Int)) (.int .u16 (v.a4 : Int)) (.int .u16 (v.a5 : Int)) (.int .u16 (v.a6 : Int)) (.int .u16 (v.a7 : Int)) (.int .i64 v.port) (.bool v.opaq) (.slice B m d) (.bool v.hasQ) (.string v.query) (.bool v.hasF) (.string v.frag))
          have HX : Hid (Below w.heap.size w ((w.alloc (.cells #[.string u.scheme, .string u.user, .string u.pass, .int .i64 u.kind, .string u.name, .int .u32 (u.v4 : Int), .int .u16 (u.a0 : Int), .int .u16 (u.a1 : Int), .int .u16 (u.a2 : Int), .int .u16 (u.a3 : Int), .int .u16 (u.a4 : Int), .int .u16 (u.a5 : Int), .int .u16 (u.a6 : Int), .int .u16 (u.a7 : Int), .int .i64 u.port, .bool u.opaq, .slice A n c, .bool u.hasQ, .string u.query, .bool u.hasF, .string u.frag] 29)).alloc (.cells #[.string v.scheme, .string v.user, .string v.pass, .int .i64 v.kind, .string v.name, .int .u32 (v.v4 : Int), .int .u16 (v.a0 : Int), .int .u16 (v.a1 : Int), .int .u16 (v.a2 : Int), .int .u16 (v.a3 : Int), .int .u16 (v.a4 : Int), .int .u16 (v.a5 : Int), .int .u16 (v.a6 : Int), .int .u16 (v.a7 : Int), .int .i64 v.port, .bool v.opaq, .slice B m d, .bool v.hasQ, .string v.query, .bool v.hasF, .string v.frag] 29))) := bn12 (bel12 w _) (bel12 _ _)
          have HH := host12_run h3 hu.wee hv.wee
          clear hS hu hv h3
          go_enter Tryd.func14, Tryd.ntmps14
          go_wp2
          all_goals first
            | (go_ret; exact ⟨ret_bool HR.out.symm, HX.out⟩)
            | (exfalso; simp_all; done)
      · have HR : Hid (S = false) := by show S = false; rw [← hS, same12_parts, h2, g2]; simp
        have HCs := Lib.hid (two12 (w := w) (.string u.scheme) (.string u.user) (.string u.pass) (.int .i64 u.kind) (.string u.name) (.int .u32 (u.v4 : Int)) (.int .u16 (u.a0 : Int)) (.int .u16 (u.a1 : Int)) (.int .u16 (u.a2 : Int)) (.int .u16 (u.a3 : Int)) (.int .u16 (u.a4 : Int)) (.int .u16 (u.a5 : Int)) (.int .u16 (u.a6 : Int)) (.int .u16 (u.a7 : Int)) (.int .i64 u.port) (.bool u.opaq) (.slice A n c) (.bool u.hasQ) (.string u.query) (.bool u.hasF) (.string u.frag) (.string v.scheme) (.string v.user) (.string v.pass) (.int .i64 v.kind) (.string v.name) (.int .u32 (v.v4 : Int)) (.int .u16 (v.a0 : Int)) (.int .u16 (v.a1 : Int)) (.int .u16 (v.a2 : Int)) (.int .u16 (v.a3 : Int)) (.int .u16 (v.a4 : Int)) (.int .u16 (v.a5 : Int)) (.int .u16 (v.a6 : Int)) (.int .u16 (v.a7 : Int)) (.int .i64 v.port) (.bool v.opaq) (.slice B m d) (.bool v.hasQ) (.string v.query) (.bool v.hasF) (.string v.frag))
        have HX : Hid (Below w.heap.size w ((w.alloc (.cells #[.string u.scheme, .string u.user, .string u.pass, .int .i64 u.kind, .string u.name, .int .u32 (u.v4 : Int), .int .u16 (u.a0 : Int), .int .u16 (u.a1 : Int), .int .u16 (u.a2 : Int), .int .u16 (u.a3 : Int), .int .u16 (u.a4 : Int), .int .u16 (u.a5 : Int), .int .u16 (u.a6 : Int), .int .u16 (u.a7 : Int), .int .i64 u.port, .bool u.opaq, .slice A n c, .bool u.hasQ, .string u.query, .bool u.hasF, .string u.frag] 29)).alloc (.cells #[.string v.scheme, .string v.user, .string v.pass, .int .i64 v.kind, .string v.name, .int .u32 (v.v4 : Int), .int .u16 (v.a0 : Int), .int .u16 (v.a1 : Int), .int .u16 (v.a2 : Int), .int .u16 (v.a3 : Int), .int .u16 (v.a4 : Int), .int .u16 (v.a5 : Int), .int .u16 (v.a6 : Int), .int .u16 (v.a7 : Int), .int .i64 v.port, .bool v.opaq, .slice B m d, .bool v.hasQ, .string v.query, .bool v.hasF, .string v.frag] 29))) := bn12 (bel12 w _) (bel12 _ _)
        clear hS hu hv
        go_enter Tryd.func14, Tryd.ntmps14
        go_wp2
        all_goals first
          | (go_ret; exact ⟨ret_bool HR.out.symm, HX.out⟩)
          | (exfalso; simp_all; done)
    · have HR : Hid (S = false) := by show S = false; rw [← hS, same12_parts, h1, g1]; simp
      have HCs := Lib.hid (two12 (w := w) (.string u.scheme) (.string u.user) (.string u.pass) (.int .i64 u.kind) (.string u.name) (.int .u32 (u.v4 : Int)) (.int .u16 (u.a0 : Int)) (.int .u16 (u.a1 : Int)) (.int .u16 (u.a2 : Int)) (.int .u16 (u.a3 : Int)) (.int .u16 (u.a4 : Int)) (.int .u16 (u.a5 : Int)) (.int .u16 (u.a6 : Int)) (.int .u16 (u.a7 : Int)) (.int .i64 u.port) (.bool u.opaq) (.slice A n c) (.bool u.hasQ) (.string u.query) (.bool u.hasF) (.string u.frag) (.string v.scheme) (.string v.user) (.string v.pass) (.int .i64 v.kind) (.string v.name) (.int .u32 (v.v4 : Int)) (.int .u16 (v.a0 : Int)) (.int .u16 (v.a1 : Int)) (.int .u16 (v.a2 : Int)) (.int .u16 (v.a3 : Int)) (.int .u16 (v.a4 : Int)) (.int .u16 (v.a5 : Int)) (.int .u16 (v.a6 : Int)) (.int .u16 (v.a7 : Int)) (.int .i64 v.port) (.bool v.opaq) (.slice B m d) (.bool v.hasQ) (.string v.query) (.bool v.hasF) (.string v.frag))
      have HX : Hid (Below w.heap.size w ((w.alloc (.cells #[.string u.scheme, .string u.user, .string u.pass, .int .i64 u.kind, .string u.name, .int .u32 (u.v4 : Int), .int .u16 (u.a0 : Int), .int .u16 (u.a1 : Int), .int .u16 (u.a2 : Int), .int .u16 (u.a3 : Int), .int .u16 (u.a4 : Int), .int .u16 (u.a5 : Int), .int .u16 (u.a6 : Int), .int .u16 (u.a7 : Int), .int .i64 u.port, .bool u.opaq, .slice A n c, .bool u.hasQ, .string u.query, .bool u.hasF, .string u.frag] 29)).alloc (.cells #[.string v.scheme, .string v.user, .string v.pass, .int .i64 v.kind, .string v.name, .int .u32 (v.v4 : Int), .int .u16 (v.a0 : Int), .int .u16 (v.a1 : Int), .int .u16 (v.a2 : Int), .int .u16 (v.a3 : Int), .int .u16 (v.a4 : Int), .int .u16 (v.a5 : Int), .int .u16 (v.a6 : Int), .int .u16 (v.a7 : Int), .int .i64 v.port, .bool v.opaq, .slice B m d, .bool v.hasQ, .string v.query, .bool v.hasF, .string v.frag] 29))) := bn12 (bel12 w _) (bel12 _ _)
      clear hS hu hv
      go_enter Tryd.func14, Tryd.ntmps14
      go_wp2
      all_goals first
        | (go_ret; exact ⟨ret_bool HR.out.symm, HX.out⟩)
        | (exfalso; simp_all; done)
  · have HR : Hid (S = false) := by show S = false; rw [← hS, same12_parts, h0, g0]; simp
    have HCs := Lib.hid (two12 (w := w) (.string u.scheme) (.string u.user) (.string u.pass) (.int .i64 u.kind) (.string u.name) (.int .u32 (u.v4 : Int)) (.int .u16 (u.a0 : Int)) (.int .u16 (u.a1 : Int)) (.int .u16 (u.a2 : Int)) (.int .u16 (u.a3 : Int)) (.int .u16 (u.a4 : Int)) (.int .u16 (u.a5 : Int)) (.int .u16 (u.a6 : Int)) (.int .u16 (u.a7 : Int)) (.int .i64 u.port) (.bool u.opaq) (.slice A n c) (.bool u.hasQ) (.string u.query) (.bool u.hasF) (.string u.frag) (.string v.scheme) (.string v.user) (.string v.pass) (.int .i64 v.kind) (.string v.name) (.int .u32 (v.v4 : Int)) (.int .u16 (v.a0 : Int)) (.int .u16 (v.a1 : Int)) (.int .u16 (v.a2 : Int)) (.int .u16 (v.a3 : Int)) (.int .u16 (v.a4 : Int)) (.int .u16 (v.a5 : Int)) (.int .u16 (v.a6 : Int)) (.int .u16 (v.a7 : Int)) (.int .i64 v.port) (.bool v.opaq) (.slice B m d) (.bool v.hasQ) (.string v.query) (.bool v.hasF) (.string v.frag))
    have HX : Hid (Below w.heap.size w ((w.alloc (.cells #[.string u.scheme, .string u.user, .string u.pass, .int .i64 u.kind, .string u.name, .int .u32 (u.v4 : Int), .int .u16 (u.a0 : Int), .int .u16 (u.a1 : Int), .int .u16 (u.a2 : Int), .int .u16 (u.a3 : Int), .int .u16 (u.a4 : Int), .int .u16 (u.a5 : Int), .int .u16 (u.a6 : Int), .int .u16 (u.a7 : Int), .int .i64 u.port, .bool u.opaq, .slice A n c, .bool u.hasQ, .string u.query, .bool u.hasF, .string u.frag] 29)).alloc (.cells #[.string v.scheme, .string v.user, .string v.pass, .int .i64 v.kind, .string v.name, .int .u32 (v.v4 : Int), .int .u16 (v.a0 : Int), .int .u16 (v.a1 : Int), .int .u16 (v.a2 : Int), .int .u16 (v.a3 : Int), .int .u16 (v.a4 : Int), .int .u16 (v.a5 : Int), .int .u16 (v.a6 : Int), .int .u16 (v.a7 : Int), .int .i64 v.port, .bool v.opaq, .slice B m d, .bool v.hasQ, .string v.query, .bool v.hasF, .string v.frag] 29))) := bn12 (bel12 w _) (bel12 _ _)
    clear hS hu hv
    go_enter Tryd.func14, Tryd.ntmps14
    go_wp2
    all_goals first
      | (go_ret; exact ⟨ret_bool HR.out.symm, HX.out⟩)
      | (exfalso; simp_all; done)
end Go.Proofs.YtliklhldlofnjaaDoor

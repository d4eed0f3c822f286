/-
  In this text, one behind the other: RLift.
-/
import Derived.BigQuiet
import Derived.Carry
import Derived.ChangeMaps5
import Derived.ChangeOld
import Derived.ChangeSame
import Derived.ChangeSlices
import Derived.ChangeVars
import Derived.Deep.AppendLies
import Derived.Deep.Light
import Derived.Deep.LoopGhost
import Derived.Deep.QuietTactic
import Derived.Deep.RegionHeld3
import Derived.Deep.RegionWith
import Derived.IntWalk
import Derived.JoinedOf
import Derived.LaidEql
import Derived.Laws.AppendOwnNone
import Derived.Laws.BitsLemmas
import Derived.Laws.Cover4
import Derived.Lib.Hide
import Derived.Maps.AppendAt
import Derived.OpenShut
import Derived.ProofKit
import Derived.RowKit
import Derived.RowKitTokens
import Derived.ShutString
import Derived.SliceStrings
import Derived.Stop.Asserts
import Derived.WalkKit
import Derived.WalkLawsBesides
import Derived.WalkSpells
import Derived.WideKeyPair
import Derived.Test.YtliklhldlofnjaaDoorRows
import Derived.Test.YtliklhldlofnjaaDoorG9
import Derived.Test.YtliklhldlofnjaaDoorG36
import Derived.Test.YtliklhldlofnjaaDoorG37
/-
  A URL as a law's argument, opened: its texts, its numbers, its path as segments (by mkrlift.py).
-/
namespace Go.Proofs.YtliklhldlofnjaaDoor
open Go.ChangeShapes Go.WideShapes Go.ChangeAt Go.RowKit

theorem r_url : Tryd.prog.cellsOf 29 = 21 := by kernel_rfl
theorem r_bool : Tryd.prog.cellsOf 4 = 1 := by kernel_rfl
theorem r_strs : Tryd.prog.cellsOf 27 = 1 := by kernel_rfl
set_option maxRecDepth 100000 in
theorem host_trod {H : Type} {enc : TypeId × Value → H} {W : World} {base : Nat} {sp : Nat → Bool} {held : Bool} {fuel : Nat} {c0 c1 c2 c3 c4 c5 c6 c7 c8 c9 c10 : Value} {x : DataW H × List MemPlace} (hf : DataW.trod enc Tryd.prog W base sp held fuel 26 [c0, c1, c2, c3, c4, c5, c6, c7, c8, c9, c10] = some x) :
    ∃ (k : Int) (nm : ByteArray) (v4 a0 a1 a2 a3 a4 a5 a6 a7 : Int), [c0, c1, c2, c3, c4, c5, c6, c7, c8, c9, c10] = [.int .i64 k, .string nm, .int .u32 v4, .int .u16 a0, .int .u16 a1, .int .u16 a2, .int .u16 a3, .int .u16 a4, .int .u16 a5, .int .u16 a6, .int .u16 a7] ∧ (Lit.int .i64 k).wf = true ∧ nm.size ≤ maxLen ∧ (Lit.int .u32 v4).wf = true ∧ (Lit.int .u16 a0).wf = true ∧ (Lit.int .u16 a1).wf = true ∧ (Lit.int .u16 a2).wf = true ∧ (Lit.int .u16 a3).wf = true ∧ (Lit.int .u16 a4).wf = true ∧ (Lit.int .u16 a5).wf = true ∧ (Lit.int .u16 a6).wf = true ∧ (Lit.int .u16 a7).wf = true := by
  obtain ⟨ys, n, _, e, hl, hlen, hfs⟩ := DataW.trod_struct Tryd.underlying26 hf
  match ys, hlen, e, hfs with
  | [y0, y1, y2, y3], _, e, hfs =>
    have h0 := hfs 0 _ rfl
    have h1 := hfs 1 _ rfl
    have h2 := hfs 2 _ rfl
    have h3 := hfs 3 _ rfl
    simp only [List.getElem?_cons_zero, List.getElem?_cons_succ] at h0 h1 h2 h3
    obtain ⟨k, q0, rfl, wk⟩ := DataW.trod_int Tryd.underlying3 h0
    obtain ⟨nm, q1, rfl, wn⟩ := DataW.trod_string Tryd.underlying9 h1
    obtain ⟨v4, q2, rfl, wv⟩ := DataW.trod_int Tryd.underlying22 h2
    obtain ⟨a0, a1, a2, a3, a4, a5, a6, a7, rfl, rfl, rfl, rfl, rfl, rfl, rfl, rfl, rfl, w0, w1, w2, w3, w4, w5, w6, w7⟩ := letters_trod h3
    simp [g_int, g_str, g_u32] at q0 q1 q2
    subst q0 q1 q2
    exact ⟨k, nm, v4, a0, a1, a2, a3, a4, a5, a6, a7, rfl, wk, wn, wv, w0, w1, w2, w3, w4, w5, w6, w7⟩
theorem i64_of {a : Int} (h : (Lit.int .i64 a).wf = true) : -9223372036854775808 ≤ a ∧ a ≤ 9223372036854775807 := by
  have e1 : IntKind.i64.min = -9223372036854775808 := rfl
  have e2 : IntKind.i64.max = 9223372036854775807 := rfl
  simp [Lit.wf, e1, e2] at h
  omega
theorem segs_of_cells {H : Type} {enc : TypeId × Value → H} {W : World} {fuel : Nat} {c : Value} {y : DataW H × List MemPlace} (hf : DataW.trod enc Tryd.prog W 0 (fun _ => true) true fuel 27 [c] = some y) :
    ∃ A len cap, c = .slice A len cap := by
  rcases open_strings Tryd.underlying27 Tryd.underlying9 (by kernel_rfl) hf with ⟨hcs, _⟩ | ⟨a, l, cp, ss, hcs, _⟩
  · simp at hcs; exact ⟨_, _, _, hcs⟩
  · simp at hcs; exact ⟨_, _, _, hcs⟩
set_option maxRecDepth 100000 in
theorem open_url {H : Type} {enc : TypeId × Value → H} {W : World} {r : Reach} {b0 : Nat} {v : Value} {d : DataW H} {ps : List MemPlace} (hval : Value.okWide Tryd.prog W r b0 29 v) (hd : DataW.Trod enc Tryd.prog W 0 (fun _ => true) true 29 v d ps) :
    ∃ (u : Url12) (A : Option Addr) (n c : Nat), v = .agg #[.string u.scheme, .string u.user, .string u.pass, .int .i64 u.kind, .string u.name, .int .u32 (u.v4 : Int), .int .u16 (u.a0 : Int), .int .u16 (u.a1 : Int), .int .u16 (u.a2 : Int), .int .u16 (u.a3 : Int), .int .u16 (u.a4 : Int), .int .u16 (u.a5 : Int), .int .u16 (u.a6 : Int), .int .u16 (u.a7 : Int), .int .i64 u.port, .bool u.opaq, .slice A n c, .bool u.hasQ, .string u.query, .bool u.hasF, .string u.frag] ∧ Segs W A u.path ∧ u.path.length = n ∧ n ≤ maxLen ∧ (n ≤ c ∧ (A = none → c = 0)) ∧ Fits12 u ∧ Nums12 u := by
  obtain ⟨xs, rfl, hn⟩ := okWide_struct Tryd.underlying29 hval
  rw [r_url] at hn
  obtain ⟨c0, c1, c2, c3, c4, c5, c6, c7, c8, c9, c10, c11, c12, c13, c14, c15, c16, c17, c18, c19, c20, rfl⟩ : ∃ c0 c1 c2 c3 c4 c5 c6 c7 c8 c9 c10 c11 c12 c13 c14 c15 c16 c17 c18 c19 c20 : Value, xs = #[c0, c1, c2, c3, c4, c5, c6, c7, c8, c9, c10, c11, c12, c13, c14, c15, c16, c17, c18, c19, c20] := by
    obtain ⟨l⟩ := xs
    match l, hn with
    | [c0, c1, c2, c3, c4, c5, c6, c7, c8, c9, c10, c11, c12, c13, c14, c15, c16, c17, c18, c19, c20], _ => exact ⟨c0, c1, c2, c3, c4, c5, c6, c7, c8, c9, c10, c11, c12, c13, c14, c15, c16, c17, c18, c19, c20, rfl⟩
  obtain ⟨fuel, hf⟩ := hd
  obtain ⟨ys, m, _, e, hl, hlen, hfs⟩ := DataW.trod_struct Tryd.underlying29 hf
  match ys, hlen, hfs with
  | [y0, y1, y2, y3, y4, y5, y6, y7, y8, y9, y10], _, hfs =>
    have h0 := hfs 0 _ rfl
    have h1 := hfs 1 _ rfl
    have h2 := hfs 2 _ rfl
    have h3 := hfs 3 _ rfl
    have h4 := hfs 4 _ rfl
    have h5 := hfs 5 _ rfl
    have h6 := hfs 6 _ rfl
    have h7 := hfs 7 _ rfl
    have h8 := hfs 8 _ rfl
    have h9 := hfs 9 _ rfl
    have h10 := hfs 10 _ rfl
    simp only [Value.cells, List.getElem?_cons_zero, List.getElem?_cons_succ] at h0 h1 h2 h3 h4 h5 h6 h7 h8 h9 h10
    obtain ⟨s0, q0, rfl, w0⟩ := DataW.trod_string Tryd.underlying9 h0
    obtain ⟨s1, q1, rfl, w1⟩ := DataW.trod_string Tryd.underlying9 h1
    obtain ⟨s2, q2, rfl, w2⟩ := DataW.trod_string Tryd.underlying9 h2
    obtain ⟨s8, q8, rfl, w8⟩ := DataW.trod_string Tryd.underlying9 h8
    obtain ⟨s10, q10, rfl, w10⟩ := DataW.trod_string Tryd.underlying9 h10
    obtain ⟨k, nm, v4, a0, a1, a2, a3, a4, a5, a6, a7, q3, wk, wn, wv, x0, x1, x2, x3, x4, x5, x6, x7⟩ := host_trod h3
    obtain ⟨pt, q4, rfl, w4⟩ := DataW.trod_int Tryd.underlying3 h4
    obtain ⟨b5, q5, rfl⟩ := DataW.trod_bool Tryd.underlying4 h5
    obtain ⟨b7, q7, rfl⟩ := DataW.trod_bool Tryd.underlying4 h7
    obtain ⟨b9, q9, rfl⟩ := DataW.trod_bool Tryd.underlying4 h9
    simp [g_int, g_str, g_host, r_bool, r_strs] at q0 q1 q2 q4 q5 q7 q8 q9 q10
    subst q0 q1 q2 q4 q5 q7 q8 q9 q10
    simp only [List.cons.injEq, and_true] at q3
    obtain ⟨rfl, rfl, rfl, rfl, rfl, rfl, rfl, rfl, rfl, rfl, rfl⟩ := q3
    obtain ⟨A, len, cap, hsl⟩ := segs_of_cells (c := c16) (y := y6) h6
    subst hsl
    obtain ⟨pth, hp1, hp2, hp3, hp4, hp5⟩ := segs_of_trod (A := A) (len := len) (cap := cap) (d := y6.1) (p := y6.2) ⟨_, h6⟩
    obtain ⟨z4, rfl, hz4⟩ := nat32 wv
    obtain ⟨m0, rfl, hm0⟩ := nat16 x0
    obtain ⟨m1, rfl, hm1⟩ := nat16 x1
    obtain ⟨m2, rfl, hm2⟩ := nat16 x2
    obtain ⟨m3, rfl, hm3⟩ := nat16 x3
    obtain ⟨m4, rfl, hm4⟩ := nat16 x4
    obtain ⟨m5, rfl, hm5⟩ := nat16 x5
    obtain ⟨m6, rfl, hm6⟩ := nat16 x6
    obtain ⟨m7, rfl, hm7⟩ := nat16 x7
    refine ⟨⟨s0, s1, s2, k, nm, z4, m0, m1, m2, m3, m4, m5, m6, m7, pt, b5, pth, b7, s8, b9, s10⟩, A, len, cap, rfl, hp3, hp1, hp2, ⟨hp4, hp5⟩, ⟨w0, w1, w2, wn, w8, w10⟩, ⟨(i64_of wk).1, (i64_of wk).2, (i64_of w4).1, (i64_of w4).2, hz4, all8 hm0 hm1 hm2 hm3 hm4 hm5 hm6 hm7⟩⟩
end Go.Proofs.YtliklhldlofnjaaDoor

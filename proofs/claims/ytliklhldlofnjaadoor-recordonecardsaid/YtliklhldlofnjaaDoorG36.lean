/-
  In this text, one behind the other: ALift, GLift.
-/
import Derived.BigQuiet
import Derived.Carry
import Derived.ChangeMaps5
import Derived.ChangeOld
import Derived.ChangeSame
import Derived.ChangeSlices
import Derived.ChangeVars
import Derived.Deep.Light
import Derived.Deep.QuietTactic
import Derived.JoinedOf
import Derived.Laws.BitsLemmas
import Derived.Laws.Cover4
import Derived.Lib.Hide
import Derived.Maps.AppendAt
import Derived.OpenShut
import Derived.ProofKit
import Derived.RowKit
import Derived.ShutString
import Derived.WalkKit
import Derived.WalkLawsBesides
import Derived.WalkSpells
import Derived.WideKeyPair
import Derived.Test.YtliklhldlofnjaaDoorRows
import Derived.Test.YtliklhldlofnjaaDoorG35
/-
  Arrays of letters and of bytes as a law's arguments: opened and shut.
-/
namespace Go.Proofs.YtliklhldlofnjaaDoor
open Go.ChangeShapes Go.WideShapes Go.ChangeAt Go.RowKit

set_option maxRecDepth 100000 in
theorem letters_cells : Tryd.prog.cellsOf 24 = 8 := by kernel_rfl
set_option maxRecDepth 100000 in
theorem letters_cell : Tryd.prog.cellsOf 23 = 1 := by kernel_rfl
set_option maxRecDepth 100000 in
theorem nat16 {a : Int} (h : (Lit.int .u16 a).wf = true) : ∃ n : Nat, a = n ∧ n < 65536 := by
  have := bounds_u16 h
  exact ⟨a.toNat, by omega, by omega⟩
set_option maxRecDepth 100000 in
theorem all8 {m0 m1 m2 m3 m4 m5 m6 m7 : Nat} (h0 : m0 < 65536) (h1 : m1 < 65536) (h2 : m2 < 65536) (h3 : m3 < 65536) (h4 : m4 < 65536) (h5 : m5 < 65536) (h6 : m6 < 65536) (h7 : m7 < 65536) : ∀ n ∈ [m0, m1, m2, m3, m4, m5, m6, m7], n < 65536 := by
  intro n hn
  simp only [List.mem_cons, List.not_mem_nil, or_false] at hn
  omega
end Go.Proofs.YtliklhldlofnjaaDoor

/-
  A host as a law's argument: opened and shut.
-/
namespace Go.Proofs.YtliklhldlofnjaaDoor
open Go.ChangeShapes Go.WideShapes Go.ChangeAt Go.RowKit

theorem g_host : Tryd.prog.cellsOf 26 = 11 := by kernel_rfl
theorem g_int : Tryd.prog.cellsOf 3 = 1 := by kernel_rfl
theorem g_str : Tryd.prog.cellsOf 9 = 1 := by kernel_rfl
theorem g_u32 : Tryd.prog.cellsOf 22 = 1 := by kernel_rfl
set_option maxRecDepth 100000 in
theorem letters_trod {H : Type} {enc : TypeId × Value → H} {W : World} {base : Nat} {sp : Nat → Bool} {held : Bool} {m : Nat} {c0 c1 c2 c3 c4 c5 c6 c7 : Value} {x : DataW H × List MemPlace} (hf : DataW.trod enc Tryd.prog W base sp held m 24 [c0, c1, c2, c3, c4, c5, c6, c7] = some x) :
    ∃ a0 a1 a2 a3 a4 a5 a6 a7 : Int, c0 = .int .u16 a0 ∧ c1 = .int .u16 a1 ∧ c2 = .int .u16 a2 ∧ c3 = .int .u16 a3 ∧ c4 = .int .u16 a4 ∧ c5 = .int .u16 a5 ∧ c6 = .int .u16 a6 ∧ c7 = .int .u16 a7 ∧ x = (.agg [.lit (.int .u16 a0), .lit (.int .u16 a1), .lit (.int .u16 a2), .lit (.int .u16 a3), .lit (.int .u16 a4), .lit (.int .u16 a5), .lit (.int .u16 a6), .lit (.int .u16 a7)], []) ∧ (Lit.int .u16 a0).wf = true ∧ (Lit.int .u16 a1).wf = true ∧ (Lit.int .u16 a2).wf = true ∧ (Lit.int .u16 a3).wf = true ∧ (Lit.int .u16 a4).wf = true ∧ (Lit.int .u16 a5).wf = true ∧ (Lit.int .u16 a6).wf = true ∧ (Lit.int .u16 a7).wf = true := by
  cases m with
  | zero => simp [DataW.trod] at hf
  | succ m =>
    rw [DataW.trod_step] at hf
    unfold DataW.trodStep at hf
    simp only [Tryd.underlying24] at hf
    rw [if_pos (by rw [letters_cells]; rfl)] at hf
    simp only [Option.map_eq_some_iff] at hf
    obtain ⟨xs, hx, e1⟩ := hf
    rw [show List.range 8 = [0, 1, 2, 3, 4, 5, 6, 7] from rfl] at hx
    simp only [List.mapM_cons, List.mapM_nil, bind, Option.bind_eq_some_iff, pure, Option.some.injEq, letters_cell] at hx
    obtain ⟨y0, h0, _, ⟨y1, h1, _, ⟨y2, h2, _, ⟨y3, h3, _, ⟨y4, h4, _, ⟨y5, h5, _, ⟨y6, h6, _, ⟨y7, h7, _, rfl, rfl⟩, rfl⟩, rfl⟩, rfl⟩, rfl⟩, rfl⟩, rfl⟩, rfl⟩ := hx
    obtain ⟨a0, e10, rfl, w0⟩ := DataW.trod_int Tryd.underlying23 h0
    obtain ⟨a1, e11, rfl, w1⟩ := DataW.trod_int Tryd.underlying23 h1
    obtain ⟨a2, e12, rfl, w2⟩ := DataW.trod_int Tryd.underlying23 h2
    obtain ⟨a3, e13, rfl, w3⟩ := DataW.trod_int Tryd.underlying23 h3
    obtain ⟨a4, e14, rfl, w4⟩ := DataW.trod_int Tryd.underlying23 h4
    obtain ⟨a5, e15, rfl, w5⟩ := DataW.trod_int Tryd.underlying23 h5
    obtain ⟨a6, e16, rfl, w6⟩ := DataW.trod_int Tryd.underlying23 h6
    obtain ⟨a7, e17, rfl, w7⟩ := DataW.trod_int Tryd.underlying23 h7
    simp at e10 e11 e12 e13 e14 e15 e16 e17
    exact ⟨a0, a1, a2, a3, a4, a5, a6, a7, e10, e11, e12, e13, e14, e15, e16, e17, by rw [← e1]; rfl, w0, w1, w2, w3, w4, w5, w6, w7⟩
theorem nat32 {a : Int} (h : (Lit.int .u32 a).wf = true) : ∃ n : Nat, a = n ∧ n < 4294967296 := by
  have e1 : IntKind.u32.min = 0 := rfl
  have e2 : IntKind.u32.max = 4294967295 := rfl
  simp [Lit.wf, e1, e2] at h
  exact ⟨a.toNat, by omega, by omega⟩
end Go.Proofs.YtliklhldlofnjaaDoor

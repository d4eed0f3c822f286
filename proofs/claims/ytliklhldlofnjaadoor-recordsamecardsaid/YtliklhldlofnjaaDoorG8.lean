/-
  In this text, one behind the other: YHex, YRun, YText2.
-/
import Derived.BigQuiet
import Derived.Deep.AppendLies
import Derived.Deep.Light
import Derived.Deep.QuietTactic
import Derived.Deep.RegionHeld3
import Derived.Deep.RegionWith
import Derived.IntWalk
import Derived.LaidEql
import Derived.Laws.BitsLemmas
import Derived.Laws.Cover4
import Derived.Lib.Hide
import Derived.Maps.AppendAt
import Derived.RowKitTokens
import Derived.Stop.Asserts
import Derived.WalkKit
import Derived.WalkLawsBesides
import Derived.WalkSpells
import Derived.Test.YtliklhldlofnjaaDoorRows
import Derived.Test.YtliklhldlofnjaaDoorG3
import Derived.Test.YtliklhldlofnjaaDoorG1
import Derived.Test.YtliklhldlofnjaaDoorG7
/-
  The document's Hex and run of layer 8, by their contracts.
-/
namespace Go.Proofs.YtliklhldlofnjaaDoor
open Go.RowKit

theorem btx_app8 (a b : List UInt8) : btx (a ++ b) = btx a ++ btx b := by
  apply ByteArray.ext
  rw [ByteArray.data_append]
  apply Array.toList_inj.1
  simp [btx]
def Quiet8 (s : ByteArray) (w : World) (e : Ending) (w' : World) : Prop := e = .returned (.string s) ∧ Below w.heap.size w w'
end Go.Proofs.YtliklhldlofnjaaDoor

/-
  The document's run of layer 8, by its contract.
-/
namespace Go.Proofs.YtliklhldlofnjaaDoor
open Go.RowKit

/-- An address as a value. -/
def addr8 (a0 a1 a2 a3 a4 a5 a6 a7 : Nat) : Value := .agg #[.int .u16 (a0 : Int), .int .u16 (a1 : Int), .int .u16 (a2 : Int), .int .u16 (a3 : Int), .int .u16 (a4 : Int), .int .u16 (a5 : Int), .int .u16 (a6 : Int), .int .u16 (a7 : Int)]
theorem run8_is {l : List Nat} {k : Nat} (h : ∀ j, j < k → l[j]? = some 0) (he : k = l.length ∨ ∃ x, l[k]? = some x ∧ x ≠ 0) : run8 l = k := by
  induction l generalizing k with
  | nil =>
    rcases he with he | ⟨x, hx, _⟩
    · exact he.symm
    · simp at hx
  | cons a l ih =>
    unfold run8
    cases k with
    | zero =>
      rcases he with he | ⟨x, hx, hne⟩
      · simp at he
      · simp at hx; subst hx; rw [if_neg hne]
    | succ k =>
      have h0 := h 0 (by omega)
      simp at h0
      rw [if_pos h0, ih (k := k) (fun j hj => by have := h (j + 1) (by omega); simpa using this)]
      rcases he with he | ⟨x, hx, hne⟩
      · exact .inl (by simpa using he)
      · exact .inr ⟨x, by simpa using hx, hne⟩
theorem eight_at {a0 a1 a2 a3 a4 a5 a6 a7 : Nat} (w : World) (t : TypeId) : ∀ k, k < 8 → (w.alloc (.cells #[.int .u16 (a0 : Int), .int .u16 (a1 : Int), .int .u16 (a2 : Int), .int .u16 (a3 : Int), .int .u16 (a4 : Int), .int .u16 (a5 : Int), .int .u16 (a6 : Int), .int .u16 (a7 : Int)] t)).cell? ⟨w.heap.size, k, none⟩ = some (.int .u16 (([a0, a1, a2, a3, a4, a5, a6, a7].getD k 0 : Nat) : Int)) := by
  intro k hk
  rw [World.cell?_alloc_at _ _ _ _ rfl]
  match k, hk with
  | 0, _ => rfl
  | 1, _ => rfl
  | 2, _ => rfl
  | 3, _ => rfl
  | 4, _ => rfl
  | 5, _ => rfl
  | 6, _ => rfl
  | 7, _ => rfl
theorem getD_at8 {l : List Nat} {k : Nat} (h : k < l.length) : l[k]? = some (l.getD k 0) := by
  rw [List.getD_eq_getElem?_getD, List.getElem?_eq_getElem h]; rfl

end Go.Proofs.YtliklhldlofnjaaDoor

/-
  The document's Text of layer 8: the walk.
-/
namespace Go.Proofs.YtliklhldlofnjaaDoor
open Go.RowKit

theorem bnx8 {W a b : World} (h : Below W.heap.size W a) (k : Below a.heap.size a b) : Below W.heap.size W b := h.trans (k.mono h.size)
end Go.Proofs.YtliklhldlofnjaaDoor

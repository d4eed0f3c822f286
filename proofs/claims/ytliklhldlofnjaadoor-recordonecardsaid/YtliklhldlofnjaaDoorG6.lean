/-
  In this text, one behind the other: PthRef2, PthText.
-/
import Derived.BigQuiet
import Derived.Deep.Light
import Derived.Deep.QuietTactic
import Derived.Deep.RegionHeld3
import Derived.IntWalk
import Derived.LaidEql
import Derived.Laws.BitsLemmas
import Derived.Laws.Cover4
import Derived.Lib.Hide
import Derived.Maps.AppendAt
import Derived.RowKitTokens
import Derived.Stop.Asserts
import Derived.WalkKit
import Derived.WalkLawsBesides
import Derived.WalkSpells
import Derived.Test.YtliklhldlofnjaaDoorRows
import Derived.Test.YtliklhldlofnjaaDoorG1
import Derived.Test.YtliklhldlofnjaaDoorG4
import Derived.Test.YtliklhldlofnjaaDoorG5
/-
  The document's Starts, Shorten and Text of layer 11, by their contracts.
-/
namespace Go.Proofs.YtliklhldlofnjaaDoor
open Go.RowKit

/-- A slice of texts that reads as a list of segments. -/
def Segs (w : World) (A : Option Addr) (ps : List Seg) : Prop := Strs w A (ps.map txt10)
theorem Segs.below {w w' : World} {A : Option Addr} {ps : List Seg} (h : Segs w A ps) (hb : Below w.heap.size w w') : Segs w' A ps := Strs.below h hb
theorem Segs.at {w : World} {A : Option Addr} {ps : List Seg} (h : Segs w A ps) {i : Nat} {p : Seg} (hp : ps[i]? = some p) : ∃ b off, A = some ⟨b, off, none⟩ ∧ b < w.heap.size ∧ w.cell? ⟨b, off + i, none⟩ = some (.string (txt10 p)) :=
  h i (txt10 p) (by rw [List.getElem?_map, hp]; rfl)
end Go.Proofs.YtliklhldlofnjaaDoor

/-
  The document's Text of layer 11, by its contract.
-/
namespace Go.Proofs.YtliklhldlofnjaaDoor
open Go.RowKit

def Wee (ps : List Seg) : Prop := ps.length ≤ 100 ∧ ∀ p ∈ ps, p.length ≤ 1000
theorem txt11_take {ps : List Seg} {k : Nat} (h : k < ps.length) : txt11 (ps.take (k + 1)) = txt11 (ps.take k) ++ 47 :: ps[k] := by
  unfold txt11
  rw [List.take_succ_eq_append_getElem h, List.flatMap_append]
  simp
theorem txt11_len : ∀ (ps : List Seg), (∀ p ∈ ps, p.length ≤ 1000) → (txt11 ps).length ≤ 1001 * ps.length
  | [], _ => by simp [txt11]
  | p :: ps, h => by
    have h1 := h p (List.mem_cons_self ..)
    have h2 := txt11_len ps (fun q hq => h q (List.mem_cons_of_mem _ hq))
    have e : txt11 (p :: ps) = (47 :: p) ++ txt11 ps := rfl
    rw [e, List.length_append, List.length_cons, List.length_cons]
    omega
end Go.Proofs.YtliklhldlofnjaaDoor

/-
  In this text, one behind the other: XSplit, XText.
-/
import Derived.BigQuiet
import Derived.Deep.Light
import Derived.Deep.QuietTactic
import Derived.IntWalk
import Derived.LaidEql
import Derived.Laws.BitsLemmas
import Derived.Laws.Cover4
import Derived.Lib.Hide
import Derived.Maps.AppendAt
import Derived.RowKitTokens
import Derived.Stop.Asserts
import Derived.WalkKit
import Derived.WalkLawsBesides
import Derived.WalkSpells
import Derived.Test.YtliklhldlofnjaaDoorRows
import Derived.Test.YtliklhldlofnjaaDoorG3
import Derived.Test.YtliklhldlofnjaaDoorG5
import Derived.Test.YtliklhldlofnjaaDoorG1
/-
  The document's Split and parts of layer 7, by their contracts.
-/
namespace Go.Proofs.YtliklhldlofnjaaDoor
open Go.RowKit

/-- A text of bytes. -/
def btx (l : List UInt8) : ByteArray := ⟨l.toArray⟩
theorem btx_size (l : List UInt8) : (btx l).size = l.length := by show l.toArray.size = _; simp
/-- A slice of texts that the call made. -/
def MadeS (B : Nat) (w : World) (v : Value) (ps : List (List UInt8)) : Prop := w.ownsRow B 9 1 v ps.length (ps.map fun p => Value.string (btx p))
theorem Tryd.infoS : (Tryd.prog.info? 9).map (fun i => (i.zero, i.size, i.bytes)) = some (some (.string ⟨#[]⟩), 1, 16) := by kernel_rfl
theorem MadeS.strs {B : Nat} {w : World} {v : Value} {ps : List (List UInt8)} (h : MadeS B w v ps) : ∃ A c, v = .slice A ps.length c ∧ ps.length ≤ c ∧ Strs w A (ps.map btx) := by
  have h' : w.ownsRow B 9 1 v ps.length (ps.map fun p => Value.string (btx p)) := h
  rcases h.2 with ⟨rfl, h0⟩ | ⟨g, cap, cur, rfl, hh⟩
  · obtain rfl := List.eq_nil_of_length_eq_zero h0
    exact ⟨none, 0, rfl, Nat.le_refl _, fun i s hs => by simp at hs⟩
  · refine ⟨_, _, rfl, hh.2.2.1, fun i s hs => ?_⟩
    have hi : i < ps.length := by have := (List.getElem?_eq_some_iff.1 hs).1; simpa using this
    have hc := h'.cellAt (g := g) i (by simpa using hi)
    refine ⟨g, 0, rfl, (Array.getElem?_eq_some_iff.1 hh.2.1).1, ?_⟩
    rw [Nat.zero_add, hc, List.getElem?_map]
    rw [List.getElem?_map] at hs
    obtain ⟨p, hp, rfl⟩ := Option.map_eq_some_iff.1 hs
    rw [hp]; rfl
theorem MadeS.below {B : Nat} {w w' : World} {v : Value} {ps : List (List UInt8)} (h : MadeS B w v ps) (hb : Below w.heap.size w w') : MadeS B w' v ps := own_below h hb
/-- 'append(v, t)' of one text, v a slice of texts of the call's own. -/
theorem append_text {ops : Array Oper} {rest : List Oper} {o : Oper} {a : Act} {Q : Exit → Act → World → Prop} {w0 : World} (hgd : o.guard = none) (s x : Operand)
    (ho : o.op = .call { callee := .builtin .append, args := #[s, x], argTypes := #[27, 27] })
    (B : Nat) (v : Value) (ps : List (List UInt8)) (p : List UInt8) (t : ByteArray) (ht : t = btx p) (hs : a.eval s = v) (hx : a.eval x = .slice (some ⟨w0.heap.size, 0, none⟩) 1 1) (h1 : MadeS B w0 v ps)
    (hl : ps.length ≤ 200000) (hB : B ≤ w0.heap.size)
    (h : ∀ v' w', MadeS B w' v' (ps ++ [p]) → Below B w0 w' → wpList Tryd.prog ops Q rest (a.put o.dst v') w') : wpList Tryd.prog ops Q (o :: rest) a (w0.alloc (.cells #[.string t] 9)) := by
  obtain ⟨i0, hi, hz0, hz1, hz2⟩ := info_parts Tryd.infoS
  refine wpList_append_own _ hgd s x _ ho B 9 i0 _ 1 16 Tryd.underlying27 hi hz0 hz1 hz2 rfl (by decide) v _ _ hs (h1.alloc _) ⟨w0.heap.size, 0, none⟩ 1 1 [.string t] hx rfl (cell_one_new _ _ _) (by simp [Value.oneCell']) (by simp only [maxLen]; omega) (by omega) (by simp; omega) (fun v' w' hown hg _ => h v' w' ?_ ?_)
  · show w'.ownsRow B 9 1 v' _ _
    subst ht
    rw [List.length_append, List.map_append]; exact hown
  · exact ((Below.refl B w0).alloc hB _).grown hg (by simp; omega) (own_ge (show w0.ownsRow B 9 1 v _ _ from h1))

end Go.Proofs.YtliklhldlofnjaaDoor

/-
  The document's Text of layer 7, by its contract.
-/
namespace Go.Proofs.YtliklhldlofnjaaDoor
open Go.RowKit

def TextPost7 (s : ByteArray) (w : World) (e : Ending) (w' : World) : Prop := e = .returned (.string s) ∧ Below w.heap.size w w'

end Go.Proofs.YtliklhldlofnjaaDoor

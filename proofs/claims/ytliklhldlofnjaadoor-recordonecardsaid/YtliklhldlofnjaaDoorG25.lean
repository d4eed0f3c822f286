/-
  In this text, one behind the other: PthAdd, PthCon, PthSame.
-/
import Derived.BigQuiet
import Derived.Deep.Light
import Derived.Deep.QuietTactic
import Derived.Deep.RegionHeld3
import Derived.IntWalk
import Derived.LaidEql
import Derived.Laws.AppendOwnNone
import Derived.Laws.BitsLemmas
import Derived.Laws.Cover4
import Derived.Lib.Hide
import Derived.Maps.AppendAt
import Derived.RowKitTokens
import Derived.Stop.Asserts
import Derived.WalkKit
import Derived.WalkLawsBesides
import Derived.WalkSpells
import Derived.Test.YtliklhldlofnjaaDoorRows
import Derived.Test.YtliklhldlofnjaaDoorG3
import Derived.Test.YtliklhldlofnjaaDoorG6
/-
  Slices of segments of the call's own; the document's Add of layer 11, by its contract (written by mkpthadd.py).
-/
namespace Go.Proofs.YtliklhldlofnjaaDoor
open Go.RowKit

theorem Tryd.infoSg : (Tryd.prog.info? 9).map (fun i => (i.zero, i.size, i.bytes)) = some (some (.string ⟨#[]⟩), 1, 16) := by kernel_rfl
/-- A slice of segments that lies above a base: its own row. -/
def RowS (B : Nat) (w : World) (v : Value) (ps : List Seg) : Prop := w.ownsRow B 9 1 v ps.length (ps.map fun p => Value.string (txt10 p))
theorem RowS.below {B : Nat} {w w' : World} {v : Value} {ps : List Seg} (h : RowS B w v ps) (hb : Below w.heap.size w w') : RowS B w' v ps := own_below h hb
theorem rowS_new (w : World) : RowS w.heap.size (w.alloc (.cells #[] 9)) (.slice (some ⟨w.heap.size, 0, none⟩) 0 0) [] := by
  refine ⟨rfl, .inr ⟨w.heap.size, 0, #[], rfl, Nat.le_refl _, ?_, Nat.le_refl _, by simp [maxLen], rfl, rfl⟩⟩
  exact heap_alloc_new w _
theorem RowS.segs {B : Nat} {w : World} {v : Value} {ps : List Seg} (h : RowS B w v ps) : ∃ A c, v = .slice A ps.length c ∧ (ps.length ≤ c ∧ (A = none → c = 0)) ∧ Segs w A ps := by
  rcases h.2 with ⟨rfl, h0⟩ | ⟨g, cap, cur, rfl, _, hh, hle, _⟩
  · obtain rfl := List.eq_nil_of_length_eq_zero h0
    exact ⟨none, 0, rfl, ⟨Nat.le_refl _, fun _ => rfl⟩, fun i s hs => by simp at hs⟩
  · refine ⟨_, _, rfl, ⟨hle, fun e => by cases e⟩, fun i s hs => ?_⟩
    rw [List.getElem?_map] at hs
    obtain ⟨p, hp, rfl⟩ := Option.map_eq_some_iff.1 hs
    have hi : i < ps.length := (List.getElem?_eq_some_iff.1 hp).1
    have hc := h.cellAt (g := g) i (by simpa using hi)
    refine ⟨g, 0, rfl, (Array.getElem?_eq_some_iff.1 hh).1, ?_⟩
    rw [Nat.zero_add, hc, List.getElem?_map, hp]; rfl
theorem segs_one (w : World) (p : Seg) {t : ByteArray} (ht : t = txt10 p) : Segs (w.alloc (.cells #[.string t] 9)) (some ⟨w.heap.size, 0, none⟩) [p] := by
  subst ht
  intro i s hs
  cases i with
  | zero =>
    cases hs
    exact ⟨w.heap.size, 0, rfl, by simp, World.cell?_alloc_at _ _ _ _ rfl⟩
  | succ i => simp at hs
/-- 'append(s, x...)', s a row of the call's own, x any segments. -/
theorem append_segs {ops : Array Oper} {rest : List Oper} {o : Oper} {a : Act} {Q : Exit → Act → World → Prop} {w : World} (hgd : o.guard = none) (s x : Operand)
    (ho : o.op = .call { callee := .builtin .append, args := #[s, x], argTypes := #[27, 27] })
    (B : Nat) (v : Value) (l : List Seg) (X : Option Addr) (m c : Nat) (lx : List Seg) (hs : a.eval s = v) (hx : a.eval x = .slice X m c) (h1 : RowS B w v l) (h2 : Segs w X lx) (hm : m = lx.length) (hc : X = none → c = 0)
    (hl : l.length + lx.length ≤ 400000) (hB : B ≤ w.heap.size)
    (h : ∀ v' w', RowS B w' v' (l ++ lx) → Below B w w' → wpList Tryd.prog ops Q rest (a.put o.dst v') w') : wpList Tryd.prog ops Q (o :: rest) a w := by
  obtain ⟨i0, hi, hz0, hz1, hz2⟩ := info_parts Tryd.infoSg
  subst hm
  cases X with
  | none =>
    cases lx with
    | cons y lx => obtain ⟨b, off, e, _⟩ := h2.at (i := 0) (p := y) rfl; cases e
    | nil =>
      rw [hc rfl] at hx
      refine wpList_append_own_none hgd s x _ ho B 9 i0 1 Tryd.underlying27 hi v _ _ hs h1 hx (h v w (by rw [List.append_nil]; exact h1) (Below.refl _ _))
  | some ad =>
    refine wpList_append_own w hgd s x _ ho B 9 i0 _ 1 16 Tryd.underlying27 hi hz0 hz1 hz2 rfl (by decide) v _ _ hs h1 ad lx.length c (lx.map fun p => Value.string (txt10 p)) hx (by simp) (fun j u hu => ?_) (fun u hu => ?_) (by simp only [maxLen]; omega) (by omega) hB (fun v' w' hown hg _ => h v' w' ?_ ?_)
    · rw [List.getElem?_map] at hu
      obtain ⟨y, hy, rfl⟩ := Option.map_eq_some_iff.1 hu
      obtain ⟨b, off, e, _, hcell⟩ := h2.at hy
      cases e
      rw [add_at, hcell]
    · obtain ⟨y, _, rfl⟩ := List.mem_map.1 hu
      rfl
    · show w'.ownsRow B 9 1 v' _ _
      rw [List.length_append, List.map_append]; exact hown
    · exact (Below.refl _ _).grown hg hB (own_ge h1)
end Go.Proofs.YtliklhldlofnjaaDoor

/-
  What the program's functions of layer 11 are held against: their contracts, as hypotheses; the example (written by mkpthcon.py).
-/
namespace Go.Proofs.YtliklhldlofnjaaDoor
open Go.RowKit

def TextC11 (s : ByteArray) (w : World) (e : Ending) (w' : World) : Prop := e = .returned (.string s) ∧ Below w.heap.size w w'
end Go.Proofs.YtliklhldlofnjaaDoor

/-
  Same and Few of segments, by their contracts (written by mkpthlaws.py).
-/
namespace Go.Proofs.YtliklhldlofnjaaDoor
open Go.RowKit

/-- Two lists that are the same11. -/
def same11 (a b : List ByteArray) : Bool := decide (a = b)

theorem ne_of_at11 {a b : List ByteArray} {k : Nat} (ha : k < a.length) (hb : k < b.length) (h : a[k] ≠ b[k]) : same11 a b = false := by
  simp only [same11, decide_eq_false_iff_not]
  rintro rfl
  exact h rfl
theorem ne_of_len11 {a b : List ByteArray} (h : a.length ≠ b.length) : same11 a b = false := by
  simp only [same11, decide_eq_false_iff_not]
  rintro rfl
  exact h rfl

theorem same_segs (ps qs : List Seg) : same11 (ps.map txt10) (qs.map txt10) = decide (ps = qs) := by
  unfold same11
  rw [Bool.eq_iff_iff, decide_eq_true_eq, decide_eq_true_eq]
  constructor
  · intro h
    have e : ∀ l : List Seg, (l.map txt10).map (fun s : ByteArray => s.data.toList) = l := fun l => by rw [List.map_map]; exact List.map_id l
    rw [← e ps, h, e qs]
  · rintro rfl; rfl
end Go.Proofs.YtliklhldlofnjaaDoor

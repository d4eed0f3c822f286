/-
  The program's tables of layer 5 as plain lists, and that the package's variables hold them.
-/
import Derived.Test.YtjhppkbaidcliaaDoorKMath
import Derived.Test.YtjhppkbaidcliaaDoorRef3
namespace Go.Proofs.YtjhppkbaidcliaaDoor
open Go.RowKit

/-- The spans: first, last, what becomes of them, how far off. -/
def spanTab : List (Int × Int × Int × Int) := [(-2147483648, -1, 1, 0), (65, 90, 0, 32), (128, 160, 1, 0), (173, 173, 2, 0), (192, 214, 0, 32), (216, 222, 0, 32), (913, 929, 0, 32), (931, 937, 0, 32), (1024, 1039, 0, 80), (1040, 1071, 0, 32), (5760, 5760, 1, 0), (7838, 7838, 5, 0), (8192, 8202, 1, 0), (8203, 8203, 2, 0), (8206, 8207, 1, 0), (8232, 8239, 1, 0), (8287, 8287, 1, 0), (8288, 8288, 2, 0), (8294, 8297, 1, 0), (12290, 12290, 3, 0), (55296, 57343, 1, 0), (57344, 63743, 1, 0), (64976, 65007, 1, 0), (65279, 65279, 2, 0), (65281, 65374, 4, 0), (65377, 65377, 3, 0), (65529, 65535, 1, 0), (917504, 2147483647, 1, 0)]
def spanAt (i : Nat) : Int × Int × Int × Int := spanTab.getD i (0, 0, 0, 0)
def letterTab : List Int := [97, 99, 101, 105, 110, 111, 117, 121]
def markTab : List Int := [768, 769, 770, 771, 776, 778, 807]
def madeTab : List (List Int) := [[224, 225, 226, 227, 228, 229, 0], [0, 0, 0, 0, 0, 0, 231], [232, 233, 234, 0, 235, 0, 0], [236, 237, 238, 0, 239, 0, 0], [0, 0, 0, 241, 0, 0, 0], [242, 243, 244, 245, 246, 0, 0], [249, 250, 251, 0, 252, 0, 0], [0, 253, 0, 0, 255, 0, 0]]
def madeAt (i j : Nat) : Int := (madeTab.getD i []).getD j 0

/-- The package's variables hold the tables. -/
structure Vars (w : World) : Prop where
  spans : ∀ i, i < 28 → w.cell? ⟨0, i * 4, none⟩ = some (.int .i32 (spanAt i).1) ∧ w.cell? ⟨0, i * 4 + 1, none⟩ = some (.int .i32 (spanAt i).2.1) ∧
    w.cell? ⟨0, i * 4 + 2, none⟩ = some (.int .i64 (spanAt i).2.2.1) ∧ w.cell? ⟨0, i * 4 + 3, none⟩ = some (.int .i32 (spanAt i).2.2.2)
  letters : ∀ i, i < 8 → w.cell? ⟨2, i, none⟩ = some (.int .i32 (letterTab.getD i 0))
  marks : ∀ i, i < 7 → w.cell? ⟨1, i, none⟩ = some (.int .i32 (markTab.getD i 0))
  made : ∀ i j, i < 8 → j < 7 → w.cell? ⟨3, i * 7 + j, none⟩ = some (.int .i32 (madeAt i j))
theorem cell_lt {w : World} {b o : Nat} {v : Value} (h : w.cell? ⟨b, o, none⟩ = some v) : b < w.heap.size := by
  rcases Nat.lt_or_ge b w.heap.size with h' | h'
  · exact h'
  · simp [World.cell?, Array.getElem?_eq_none h'] at h
theorem Vars.below_of {B : Nat} {w w' : World} (h : Vars w) (hb : Below B w w') (h0 : 0 < B) (h1 : 2 < B) (h2 : 1 < B) (h3 : 3 < B) : Vars w' := by
  refine ⟨fun i hi => ?_, fun i hi => ?_, fun i hi => ?_, fun i j hi hj => ?_⟩
  · obtain ⟨a, b, c, d⟩ := h.spans i hi
    exact ⟨(hb.cell (p := ⟨_, _, none⟩) h0).trans a, (hb.cell (p := ⟨_, _, none⟩) h0).trans b, (hb.cell (p := ⟨_, _, none⟩) h0).trans c, (hb.cell (p := ⟨_, _, none⟩) h0).trans d⟩
  · exact (hb.cell (p := ⟨_, _, none⟩) h1).trans (h.letters i hi)
  · exact (hb.cell (p := ⟨_, _, none⟩) h2).trans (h.marks i hi)
  · exact (hb.cell (p := ⟨_, _, none⟩) h3).trans (h.made i j hi hj)
theorem Vars.lt {w : World} (h : Vars w) : 0 < w.heap.size ∧ 2 < w.heap.size ∧ 1 < w.heap.size ∧ 3 < w.heap.size :=
  ⟨cell_lt (h.spans 0 (by omega)).1, cell_lt (h.letters 0 (by omega)), cell_lt (h.marks 0 (by omega)), cell_lt (h.made 0 0 (by omega) (by omega))⟩
theorem Vars.below {w w' : World} (h : Vars w) (hb : Below w.heap.size w w') : Vars w' := h.below_of hb h.lt.1 h.lt.2.1 h.lt.2.2.1 h.lt.2.2.2
/-- What lies above an older world may be written. -/
theorem Vars.belowB {w0 w w' : World} (h : Vars w) (h0 : Vars w0) (hb : Below w0.heap.size w w') : Vars w' := h.below_of hb h0.lt.1 h0.lt.2.1 h0.lt.2.2.1 h0.lt.2.2.2

/-! The search. -/
theorem span_first : ∀ i, i < 28 → ∀ j, j < 28 → i ≤ j → (spanAt i).1 ≤ (spanAt j).1 ∧ (spanAt i).2.1 ≤ (spanAt j).2.1 := by decide +kernel
/-- Where a number stands: a span that holds it. -/
def Holds (c : Int) (i : Nat) : Prop := i < 28 ∧ (spanAt i).1 ≤ c ∧ c ≤ (spanAt i).2.1
/-- No span holds it. -/
def Free (c : Int) : Prop := ∀ i, i < 28 → c < (spanAt i).1 ∨ (spanAt i).2.1 < c
theorem free_of {c : Int} {low : Nat} (h1 : ∀ i, i < low → (spanAt i).2.1 < c) (h2 : ∀ i, i < 28 → low ≤ i → c < (spanAt i).1) : Free c := fun i hi => by
  rcases Nat.lt_or_ge i low with h | h
  · exact .inr (h1 i h)
  · exact .inl (h2 i hi h)
theorem low_of {c : Int} {m : Nat} (hm : m < 28) (h : (spanAt m).2.1 < c) : ∀ i, i < m + 1 → (spanAt i).2.1 < c := fun i hi => by
  have := (span_first i (by omega) m hm (by omega)).2
  omega
theorem high_of {c : Int} {m : Nat} (h : c < (spanAt m).1) : ∀ i, i < 28 → m ≤ i → c < (spanAt i).1 := fun i hi hm => by
  have := (span_first m (by omega) i hi hm).1
  omega
end Go.Proofs.YtjhppkbaidcliaaDoor

/-
  'append' of runes onto a row of the call's own, from any runes.
-/
import Derived.Test.YtjhppkbaidcliaaDoorRef3
import Derived.Laws.AppendOwnNone
namespace Go.Proofs.YtjhppkbaidcliaaDoor
open Go.RowKit

/-- A slice of runes that lies above a base: its own row. -/
def RowN (B : Nat) (w : World) (v : Value) (l : List Int) : Prop := w.ownsRow B 21 1 v l.length (l.map (Value.int .i32))
theorem RowN.below {B : Nat} {w w' : World} {v : Value} {l : List Int} (h : RowN B w v l) (hb : Below w.heap.size w w') : RowN B w' v l := own_below h hb
theorem rowN_new (w : World) : RowN w.heap.size (w.alloc (.cells #[] 21)) (.slice (some ⟨w.heap.size, 0, none⟩) 0 0) [] := by
  refine ⟨rfl, .inr ⟨w.heap.size, 0, #[], rfl, Nat.le_refl _, ?_, Nat.le_refl _, by simp [maxLen], rfl, rfl⟩⟩
  exact heap_alloc_new w _
/-- 'append(s, x...)', s a row of the call's own, x any runes. -/
theorem append_from {ops : Array Oper} {rest : List Oper} {o : Oper} {a : Act} {Q : Exit → Act → World → Prop} {w : World} (hgd : o.guard = none) (s x : Operand)
    (ho : o.op = .call { callee := .builtin .append, args := #[s, x], argTypes := #[23, 23] })
    (B : Nat) (v : Value) (l : List Int) (X : Option Addr) (m c : Nat) (lx : List Int) (hs : a.eval s = v) (hx : a.eval x = .slice X m c) (h1 : RowN B w v l) (h2 : Runes w X lx) (hm : m = lx.length) (hc : X = none → c = 0)
    (hl : l.length + lx.length ≤ 4000) (hB : B ≤ w.heap.size)
    (h : ∀ v' w', RowN B w' v' (l ++ lx) → Below B w w' → wpList Tryd.prog ops Q rest (a.put o.dst v') w') : wpList Tryd.prog ops Q (o :: rest) a w := by
  obtain ⟨i0, hi, hz0, hz1, hz2⟩ := info_parts Tryd.infoR
  subst hm
  cases X with
  | none =>
    cases lx with
    | cons y lx => obtain ⟨b, off, e, _⟩ := h2 0 y rfl; cases e
    | nil =>
      rw [hc rfl] at hx
      refine wpList_append_own_none hgd s x _ ho B 21 i0 1 Tryd.underlying23 hi v _ _ hs h1 hx (h v w (by rw [List.append_nil]; exact h1) (Below.refl _ _))
  | some ad =>
    refine wpList_append_own w hgd s x _ ho B 21 i0 _ 1 4 Tryd.underlying23 hi hz0 hz1 hz2 rfl (by decide) v _ _ hs h1 ad lx.length c (lx.map (Value.int .i32)) hx (by simp) (fun j u hu => ?_) (fun u hu => ?_) (by simp only [maxLen]; omega) (by omega) hB (fun v' w' hown hg _ => h v' w' ?_ ?_)
    · rw [List.getElem?_map] at hu
      obtain ⟨y, hy, rfl⟩ := Option.map_eq_some_iff.1 hu
      obtain ⟨b, off, e, _, hcell⟩ := h2 j y hy
      cases e
      rw [add_at, hcell]
    · obtain ⟨y, _, rfl⟩ := List.mem_map.1 hu
      rfl
    · show w'.ownsRow B 21 1 v' _ _
      rw [List.length_append, List.map_append]; exact hown
    · exact (Below.refl _ _).grown hg hB (own_ge h1)
theorem Runes.take {w : World} {A : Option Addr} {l : List Int} (h : Runes w A l) (k : Nat) : Runes w A (l.take k) := by
  intro i c hc
  refine h i c ?_
  rw [List.getElem?_take] at hc
  split at hc
  · exact hc
  · cases hc
theorem Runes.drop {w : World} {b off : Nat} {l : List Int} (h : Runes w (some ⟨b, off, none⟩) l) (k : Nat) : Runes w (some ⟨b, off + k, none⟩) (l.drop k) := by
  intro i c hc
  rw [List.getElem?_drop] at hc
  obtain ⟨b', off', e, hlt, hcell⟩ := h (k + i) c hc
  cases e
  exact ⟨b, off + k, rfl, hlt, by rw [Nat.add_assoc]; exact hcell⟩
theorem Runes.tail {w : World} {b off cap p : Nat} {l : List Int} (h : Runes w (some ⟨b, off, none⟩) l) (hc : l.length ≤ cap) : Runes w (if cap = p then some ⟨b, off, none⟩ else some ⟨b, off + p, none⟩) (l.drop p) := by
  split
  · intro i c hi
    rw [List.drop_eq_nil_of_le (by omega)] at hi
    simp at hi
  · exact h.drop p
theorem Runes.nil_ {w : World} {X : Option Addr} : Runes w X [] := fun i c hc => by simp at hc
theorem runes_one (w : World) (c : Int) : Runes (w.alloc (.cells #[.int .i32 c] 21)) (some ⟨w.heap.size, 0, none⟩) [c] := by
  intro i x hx
  obtain ⟨rfl, rfl⟩ : i = 0 ∧ x = c := by
    cases i with
    | zero => simp at hx; exact ⟨rfl, hx.symm⟩
    | succ i => simp at hx
  exact ⟨_, _, rfl, by simp, by simp⟩
end Go.Proofs.YtjhppkbaidcliaaDoor

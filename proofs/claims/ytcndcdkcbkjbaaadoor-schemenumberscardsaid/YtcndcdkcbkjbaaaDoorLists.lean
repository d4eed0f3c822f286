/-
  Slices of runes that read as lists; utf.Decode, utf.Valid, utf.Encode and the document's Same, by their contracts.
-/
import Derived.Test.YtcndcdkcbkjbaaaDoorFirst
namespace Go.Proofs.YtcndcdkcbkjbaaaDoor
open Go.RowKit

/-- A slice of runes that reads as a list; nil let in. -/
def Runes (w : World) (A : Option Addr) (l : List Int) : Prop :=
  ∀ i c, l[i]? = some c → ∃ b off, A = some ⟨b, off, none⟩ ∧ b < w.heap.size ∧ w.cell? ⟨b, off + i, none⟩ = some (.int .i32 c)

theorem Runes.below {w w' : World} {A : Option Addr} {l : List Int} (h : Runes w A l) (hb : Below w.heap.size w w') : Runes w' A l := by
  intro i c hc
  obtain ⟨b, off, e, hl, hc⟩ := h i c hc
  exact ⟨b, off, e, Nat.lt_of_lt_of_le hl hb.size, (hb.cell (p := ⟨b, off + i, none⟩) hl).trans hc⟩

theorem Runes.drewN {w : World} {A : Option Addr} {l : List Int} (h : Runes w A l) (n : Nat) : Runes (w.drewN n) A l :=
  h.below (below_drewN (Below.refl _ _) n)

theorem Tryd.infoR : (Tryd.prog.info? 21).map (fun i => (i.zero, i.size, i.bytes)) = some (some (.int .i32 0), 1, 4) := by kernel_rfl

/-- A slice of runes that the call made itself. -/
def Made (w w' : World) (v : Value) (l : List Int) : Prop :=
  w'.ownsRow w.heap.size 21 1 v l.length (l.map (Value.int .i32)) ∧ Below w.heap.size w w'

theorem Made.runes {w w' : World} {v : Value} {l : List Int} (h : Made w w' v l) : ∃ A c, v = .slice A l.length c ∧ Runes w' A l := by
  obtain ⟨h, hb⟩ := h
  rcases h.2 with ⟨rfl, h0⟩ | ⟨g, cap, cur, rfl, _⟩
  · rw [h0]
    obtain rfl := List.eq_nil_of_length_eq_zero h0
    exact ⟨none, 0, rfl, fun i s hs => by simp at hs⟩
  · rename_i hh
    refine ⟨_, _, rfl, fun i s hs => ?_⟩
    have hi : i < l.length := (List.getElem?_eq_some_iff.1 hs).1
    have hc := h.cellAt (g := g) i (by simpa using hi)
    refine ⟨g, 0, rfl, ?_, ?_⟩
    · exact (Array.getElem?_eq_some_iff.1 hh.2.1).1
    · rw [Nat.zero_add, hc, List.getElem?_map, hs]; rfl

theorem own_ge {w : World} {base : Nat} {e : TypeId} {size : Nat} {v : Value} {n : Nat} {xs : List Value} (h : w.ownsRow base e size v n xs) (k : Nat) (hk : v.ownBlock = some k) : base ≤ k := by
  rcases h.2 with ⟨rfl, _⟩ | ⟨g, cap, cur, rfl, hb, _⟩
  · simp [Value.ownBlock] at hk
  · simp [Value.ownBlock] at hk; omega

theorem own_below {w w' : World} {base : Nat} {e : TypeId} {size : Nat} {v : Value} {n : Nat} {xs : List Value} (h : w.ownsRow base e size v n xs) (hb : Below w.heap.size w w') : w'.ownsRow base e size v n xs := by
  obtain ⟨h1, h2⟩ := h
  refine ⟨h1, ?_⟩
  rcases h2 with h2 | ⟨g, cap, cur, rfl, hg, hh, r⟩
  · exact .inl h2
  · exact .inr ⟨g, cap, cur, rfl, hg, (hb.block g (Array.getElem?_eq_some_iff.1 hh).1).trans hh, r⟩
theorem Made.carry {w w1 w2 : World} {v : Value} {l : List Int} (h : Made w w1 v l) (hb : Below w1.heap.size w1 w2) : Made w w2 v l :=
  ⟨own_below h.1 hb, h.2.trans (hb.mono h.2.size)⟩
theorem Made.push {w wr w1 : World} {v v' : Value} {c : Int} {l : List Int} {tmp : Obj} (h : Made w wr v l)
    (hown : w1.ownsRow w.heap.size 21 1 v' (l.length + 1) (l.map (Value.int .i32) ++ [.int .i32 c])) (hg : (wr.alloc tmp).grownBy w1 v.ownBlock) : Made w w1 v' (l ++ [c]) := by
  refine ⟨by simpa using hown, (h.2.alloc h.2.size tmp).grown hg (by have := h.2.size; simp; omega) (own_ge h.1)⟩

def MadePost (w : World) (l : List Int) (e : Ending) (w' : World) : Prop := ∃ v, e = .returned v ∧ Made w w' v l

theorem extract_list (s : ByteArray) (k : Nat) : (s.extract k s.size).data.toList = s.data.toList.drop k := by
  simp only [ByteArray.data_extract, Array.toList_extract, List.extract_eq_take_drop]
  exact List.take_of_length_le (by simp)

/-- Decoding from a place on: what is behind it, and what is told till there. -/
def DecRel (w : World) (s : ByteArray) (at_ : Nat) (v : Value) (wr : World) : Prop :=
  ∃ l, dec s.data.toList = l ++ dec (s.data.toList.drop at_) ∧ l.length ≤ at_ ∧ Made w wr v l

theorem runes_bytes (l : List Int) : (runesBytes l).data.toList = enc l := by
  have h : ∀ (l : List Int) (s : ByteArray), (l.foldl (fun r n => r ++ Utf8.encode n) s).data.toList = s.data.toList ++ enc l := by
    intro l
    induction l with
    | nil => intro s; simp [enc]
    | cons c l ih => intro s; simp only [List.foldl_cons]; rw [ih]; simp [enc, enc1]
  exact (h l ByteArray.empty).trans (by simp)

theorem add_at (b off j : Nat) : (⟨b, off, none⟩ : Addr).add j = ⟨b, off + j, none⟩ := by
  unfold Addr.add
  split <;> simp_all

/-- Two lists that are the same. -/
def same (a b : List Int) : Bool := decide (a = b)

theorem ne_of_at {a b : List Int} {k : Nat} (ha : k < a.length) (hb : k < b.length) (h : a[k] ≠ b[k]) : same a b = false := by
  simp only [same, decide_eq_false_iff_not]
  rintro rfl
  exact h rfl
theorem ne_of_len {a b : List Int} (h : a.length ≠ b.length) : same a b = false := by
  simp only [same, decide_eq_false_iff_not]
  rintro rfl
  exact h rfl

end Go.Proofs.YtcndcdkcbkjbaaaDoor

/-
  The document's Decode of layer 4, by its contract.
-/
import Derived.Test.YtmnpefpglpabmaaNPut
namespace Go.Proofs.Ytmnpefpglpabmaa
open Go.RowKit

theorem sc_scal' (n : Nat) : scal (n : Int) = sc n := by
  unfold scal sc
  by_cases h1 : n ≤ 1114111 <;> by_cases h2 : n < 55296 <;> by_cases h3 : 57343 < n <;> simp [h1, h2, h3] <;> omega
theorem beq_zero (a : Nat) : ((a : Int) == 0) = (a == 0) := by
  by_cases h : a = 0
  · subst h; rfl
  · rw [beq_eq_false_iff_ne.2 h, beq_eq_false_iff_ne.2 (by omega)]
theorem Made.lower {w w1 w' : World} {v : Value} {l : List Int} (h : Made w1 w' v l) (hb : Below w.heap.size w w1) : Made w w' v l := by
  obtain ⟨⟨h1, h2⟩, h3⟩ := h
  refine ⟨⟨h1, ?_⟩, hb.trans (h3.mono hb.size)⟩
  have := hb.size
  rcases h2 with h2 | ⟨g, cap, cur, rfl, hg, hh, r⟩
  · exact .inl h2
  · exact .inr ⟨g, cap, cur, rfl, by omega, hh, r⟩
theorem Made.form {w w' : World} {v : Value} {l : List Int} (h : Made w w' v l) : ∃ A c, v = .slice A l.length c := by
  obtain ⟨A, c, e, _⟩ := h.runes
  exact ⟨A, c, e⟩
theorem decT_nil (f : Nat) (cur : List Nat) (n i bias : Nat) : decT f [] cur n i bias = some cur := by cases f <;> rfl
theorem decT_none {f : Nat} {s : List UInt8} {cur : List Nat} {n i bias : Nat} (hs : s ≠ []) (h : par s bias 36 1 i = none) : decT (f + 1) s cur n i bias = none := by
  cases s with
  | nil => exact absurd rfl hs
  | cons c s => unfold decT; rw [h]
theorem decT_some {f : Nat} {s r : List UInt8} {cur : List Nat} {n i bias j : Nat} (hs : s ≠ []) (h : par s bias 36 1 i = some (j, r)) : decT (f + 1) s cur n i bias =
    if sc (n + j / (cur.length + 1)) then decT f r (ins cur (j % (cur.length + 1)) (n + j / (cur.length + 1))) (n + j / (cur.length + 1)) (j % (cur.length + 1) + 1) (adapt (j - i) (cur.length + 1) (i == 0)) else none := by
  cases s with
  | nil => exact absurd rfl hs
  | cons c s =>
    conv => lhs; unfold decT
    rw [h]
theorem par_rest {s : ByteArray} {p bias i j : Nat} {r : List UInt8} (h : par (s.data.toList.drop p) bias 36 1 i = some (j, r)) (hp : p ≤ s.size) :
    ∃ p', p < p' ∧ p' ≤ s.size ∧ r = s.data.toList.drop p' ∧ s.size - r.length = p' ∧ i ≤ j ∧ j ≤ 1099511627776 := by
  obtain ⟨q, pre, hj, he, hne, _, hb⟩ := tell_par bias _ _ _ _ _ _ h
  have hl := congrArg List.length he
  rw [List.length_drop, List.length_append] at hl
  have hsz : s.data.toList.length = s.size := by simp
  have hpos := List.length_pos_iff.2 hne
  refine ⟨p + pre.length, by omega, by omega, ?_, by omega, by omega, hb⟩
  rw [← List.drop_drop, he, List.drop_left' rfl]

def DecTwo (o : Option (List Nat)) (w : World) (e : Ending) (w' : World) : Prop := match o with
  | none => e = .returned (.tuple #[.slice none 0 0, .int .i64 2]) ∧ Below w.heap.size w w'
  | some l => ∃ v, e = .returned (.tuple #[v, .int .i64 0]) ∧ Made w w' v (ints l)

/-- The loop: what is left decodes to what the text does. -/
def DecRelN (w : World) (s : ByteArray) (P : Option (List Nat)) (v : Value) (p n i bias : Nat) (wr : World) : Prop :=
  ∃ (f : Nat) (cur : List Nat), Made w wr v (ints cur) ∧ decT f (s.data.toList.drop p) cur n i bias = P ∧ s.size - p ≤ f ∧ p ≤ s.size ∧ cur.length ≤ p ∧ i ≤ cur.length ∧ n ≤ 1114111 ∧ bias ≤ 4398046511104

theorem digits_all {l : List UInt8} {k : Nat} (h : k < l.length) (h1 : ∀ b ∈ l.take k, b.toNat < 128) (h2 : l[k].toNat < 128) : ∀ b ∈ l.take (k + 1), b.toNat < 128 := by
  intro b hb
  rw [List.take_succ_eq_append_getElem h, List.mem_append, List.mem_singleton] at hb
  rcases hb with hb | rfl
  · exact h1 b hb
  · exact h2
theorem pdec_bad {l : List UInt8} {k : Nat} (h : k < l.length) (h2 : 128 ≤ l[k].toNat) : pdec l = none := by
  unfold pdec
  rw [if_pos]
  exact List.any_eq_true.2 ⟨l[k], List.getElem_mem h, by simpa using h2⟩
theorem pdec_good {l : List UInt8} (h : ∀ b ∈ l, b.toNat < 128) : pdec l =
    if 0 < hyph l then decT l.length (l.drop ((hyph l).toNat + 1)) ((l.take (hyph l).toNat).map UInt8.toNat) 128 0 72 else decT l.length l [] 128 0 72 := by
  unfold pdec
  rw [if_neg]
  intro hn
  obtain ⟨b, hb, h1⟩ := List.any_eq_true.1 hn
  have := h b hb
  simp at h1
  omega
theorem hyph_lt (s : List UInt8) : -1 ≤ hyph s ∧ hyph s < s.length ∨ s = [] ∧ hyph s = -1 := by
  by_cases h : s = []
  · subst h; right; exact ⟨rfl, by decide⟩
  · left
    unfold hyph
    have h1 : s.reverse.findIdx (· == 45) ≤ s.reverse.length := List.findIdx_le_length
    have h2 := List.length_pos_iff.2 h
    rw [List.length_reverse] at h1
    omega
theorem toNat_take (l : List UInt8) (k : Nat) (h : k < l.length) : ints ((l.take (k + 1)).map UInt8.toNat) = ints ((l.take k).map UInt8.toNat) ++ [((l[k].toNat : Nat) : Int)] := by
  rw [List.take_succ_eq_append_getElem h]
  simp only [ints, List.map_append, List.map_cons, List.map_nil]

end Go.Proofs.Ytmnpefpglpabmaa

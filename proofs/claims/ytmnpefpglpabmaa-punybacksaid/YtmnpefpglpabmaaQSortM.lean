/-
  The stable sort by blocks and symmetric merges, as plain lists.
-/
import Derived.Laws.Cover4
namespace Go.Proofs.Ytmnpefpglpabmaa

/-- By the key, and then by the place. -/
def prec (key : Nat → Int) (x y : Nat) : Prop := key x < key y ∨ (key x = key y ∧ x < y)
theorem prec_trans {key : Nat → Int} {x y z : Nat} (h1 : prec key x y) (h2 : prec key y z) : prec key x z := by unfold prec at *; omega
theorem prec_irrefl {key : Nat → Int} {x : Nat} : ¬ prec key x x := by unfold prec; omega
theorem prec_total {key : Nat → Int} {x y : Nat} (h : ¬ prec key y x) (hne : x ≠ y) : prec key x y := by unfold prec at *; omega
theorem prec_cross {key : Nat → Int} {x y : Nat} (h : x < y) : key y < key x ↔ prec key y x := by unfold prec; omega
theorem prec_cross' {key : Nat → Int} {x y : Nat} (h : x < y) (hn : ¬ key y < key x) : prec key x y := by unfold prec; omega

abbrev Srt (key : Nat → Int) (l : List Nat) : Prop := l.Pairwise (prec key)
theorem srt_append {key : Nat → Int} {a b : List Nat} (ha : Srt key a) (hb : Srt key b) (h : ∀ x ∈ a, ∀ y ∈ b, prec key x y) : Srt key (a ++ b) := List.pairwise_append.2 ⟨ha, hb, h⟩
theorem srt_get {key : Nat → Int} {l : List Nat} (h : Srt key l) {i j : Nat} (hj : j < l.length) (hij : i < j) : prec key (l[i]'(by omega)) l[j] := (List.pairwise_iff_getElem.1 h) i j (by omega) hj hij
theorem srt_le {key : Nat → Int} {l : List Nat} (h : Srt key l) {i j : Nat} (hj : j < l.length) (hij : i ≤ j) {y : Nat} (hy : prec key l[j] y) : prec key (l[i]'(by omega)) y := by
  by_cases e : i = j
  · subst e; exact hy
  · exact prec_trans (srt_get h hj (by omega)) hy
theorem srt_ge {key : Nat → Int} {l : List Nat} (h : Srt key l) {i j : Nat} (hj : j < l.length) (hij : i ≤ j) {x : Nat} (hx : prec key x (l[i]'(by omega))) : prec key x l[j] := by
  by_cases e : i = j
  · subst e; exact hx
  · exact prec_trans hx (srt_get h hj (by omega))
theorem mem_take_get {l : List Nat} {k x : Nat} (h : x ∈ l.take k) : ∃ i, ∃ hi : i < l.length, i < k ∧ x = l[i] := by
  rw [List.mem_take_iff_getElem] at h
  obtain ⟨i, hi, rfl⟩ := h
  exact ⟨i, by omega, by omega, rfl⟩
theorem mem_drop_get {l : List Nat} {k x : Nat} (h : x ∈ l.drop k) : ∃ i, ∃ hi : i < l.length, k ≤ i ∧ x = l[i] := by
  obtain ⟨i, hi, rfl⟩ := List.mem_iff_getElem.1 h
  rw [List.length_drop] at hi
  exact ⟨k + i, by omega, by omega, by rw [List.getElem_drop]⟩
theorem srt_take {key : Nat → Int} {l : List Nat} (h : Srt key l) (k : Nat) : Srt key (l.take k) := h.sublist (List.take_sublist _ _)
theorem srt_drop {key : Nat → Int} {l : List Nat} (h : Srt key l) (k : Nat) : Srt key (l.drop k) := h.sublist (List.drop_sublist _ _)
theorem srt_parts {key : Nat → Int} {l : List Nat} (h : Srt key l) (k : Nat) : ∀ x ∈ l.take k, ∀ y ∈ l.drop k, prec key x y := by
  intro x hx y hy
  obtain ⟨i, hi, hik, rfl⟩ := mem_take_get hx
  obtain ⟨j, hj, hjk, rfl⟩ := mem_drop_get hy
  exact srt_get h hj (by omega)

/-- The halves of a symmetric merge. -/
theorem sym_split {key : Nat → Int} {A B : List Nat} (hA : Srt key A) (hB : Srt key B) (hX : ∀ x ∈ A, ∀ y ∈ B, x < y) {s h : Nat} (hs : s ≤ h)
    (h1 : s = 0 ∨ h - s = B.length ∨ ∃ (a : s - 1 < A.length) (b : h - s < B.length), ¬ key B[h - s] < key A[s - 1]) (h2 : s = A.length ∨ h = s ∨ ∃ (a : s < A.length) (b : h - 1 - s < B.length), key B[h - 1 - s] < key A[s]) :
    ∀ x ∈ A.take s ++ B.take (h - s), ∀ y ∈ A.drop s ++ B.drop (h - s), prec key x y := by
  intro x hx y hy
  rcases List.mem_append.1 hx with hx | hx <;> rcases List.mem_append.1 hy with hy | hy
  · exact srt_parts hA s x hx y hy
  · obtain ⟨i, hi, hik, rfl⟩ := mem_take_get hx
    obtain ⟨j, hj, hjk, rfl⟩ := mem_drop_get hy
    rcases h1 with e | e | ⟨a, b, hn⟩
    · omega
    · omega
    · have := prec_cross' (hX _ (List.getElem_mem a) _ (List.getElem_mem b)) hn
      exact srt_le hA a (by omega) (srt_ge hB hj (by omega) this)
  · obtain ⟨i, hi, hik, rfl⟩ := mem_take_get hx
    obtain ⟨j, hj, hjk, rfl⟩ := mem_drop_get hy
    rcases h2 with e | e | ⟨a, b, hn⟩
    · omega
    · omega
    · have := (prec_cross (hX _ (List.getElem_mem a) _ (List.getElem_mem b))).1 hn
      have hle : i ≤ h - 1 - s := by clear hn h1 this; omega
      exact srt_le hB b hle (srt_ge hA hj hjk this)
  · exact srt_parts hB (h - s) x hx y hy

/-- One put into a sorted row, from ahead of it. -/
theorem one_ahead {key : Nat → Int} {B : List Nat} {x i : Nat} (hB : Srt key B) (hX : ∀ y ∈ B, x < y) (h1 : i = 0 ∨ ∃ a : i - 1 < B.length, key B[i - 1] < key x) (h2 : i = B.length ∨ ∃ a : i < B.length, ¬ key B[i] < key x) :
    Srt key (B.take i ++ x :: B.drop i) ∧ (B.take i ++ x :: B.drop i).Perm (x :: B) := by
  have p1 : ∀ y ∈ B.take i, prec key y x := by
    intro y hy
    obtain ⟨j, hj, hjk, rfl⟩ := mem_take_get hy
    rcases h1 with e | ⟨a, hn⟩
    · omega
    · exact srt_le hB a (by omega) ((prec_cross (hX _ (List.getElem_mem a))).1 hn)
  have p2 : ∀ y ∈ B.drop i, prec key x y := by
    intro y hy
    obtain ⟨j, hj, hjk, rfl⟩ := mem_drop_get hy
    rcases h2 with e | ⟨a, hn⟩
    · omega
    · exact srt_ge hB hj (by omega) (prec_cross' (hX _ (List.getElem_mem a)) hn)
  refine ⟨srt_append (srt_take hB i) (List.pairwise_cons.2 ⟨p2, srt_drop hB i⟩) ?_, ?_⟩
  · intro u hu v hv
    rcases List.mem_cons.1 hv with rfl | hv
    · exact p1 u hu
    · exact srt_parts hB i u hu v hv
  · refine List.perm_middle.trans ?_
    rw [List.take_append_drop]
/-- One put into a sorted row, from behind it. -/
theorem one_behind {key : Nat → Int} {A : List Nat} {y i : Nat} (hA : Srt key A) (hX : ∀ x ∈ A, x < y) (h1 : i = 0 ∨ ∃ a : i - 1 < A.length, ¬ key y < key A[i - 1]) (h2 : i = A.length ∨ ∃ a : i < A.length, key y < key A[i]) :
    Srt key (A.take i ++ y :: A.drop i) ∧ (A.take i ++ y :: A.drop i).Perm (A ++ [y]) := by
  have p1 : ∀ x ∈ A.take i, prec key x y := by
    intro x hx
    obtain ⟨j, hj, hjk, rfl⟩ := mem_take_get hx
    rcases h1 with e | ⟨a, hn⟩
    · omega
    · exact srt_le hA a (by omega) (prec_cross' (hX _ (List.getElem_mem a)) hn)
  have p2 : ∀ x ∈ A.drop i, prec key y x := by
    intro x hx
    obtain ⟨j, hj, hjk, rfl⟩ := mem_drop_get hx
    rcases h2 with e | ⟨a, hn⟩
    · omega
    · exact srt_ge hA hj (by omega) ((prec_cross (hX _ (List.getElem_mem a))).1 hn)
  refine ⟨srt_append (srt_take hA i) (List.pairwise_cons.2 ⟨p2, srt_drop hA i⟩) ?_, ?_⟩
  · intro u hu v hv
    rcases List.mem_cons.1 hv with rfl | hv
    · exact p1 u hu
    · exact srt_parts hA i u hu v hv
  · refine List.perm_middle.trans ?_
    rw [List.take_append_drop]
    exact (List.perm_append_singleton y A).symm

/-- A row by blocks, each sorted, and of the same places as another row's. -/
inductive Good (key : Nat → Int) (bs : Nat) : List Nat → List Nat → Prop
  | last {D O : List Nat} : D.length < bs → Srt key D → D.Perm O → Good key bs D O
  | cons {D1 O1 D O : List Nat} : D1.length = bs → Srt key D1 → D1.Perm O1 → Good key bs D O → Good key bs (D1 ++ D) (O1 ++ O)
theorem Good.perm {key : Nat → Int} {bs : Nat} {D O : List Nat} (h : Good key bs D O) : D.Perm O := by
  induction h with
  | last _ _ h => exact h
  | cons _ _ h1 _ ih => exact h1.append ih
theorem Good.whole {key : Nat → Int} {bs : Nat} {D O : List Nat} (h : Good key bs D O) (hl : D.length ≤ bs) : Srt key D := by
  cases h with
  | last _ h _ => exact h
  | cons h1 h2 h3 h4 =>
    rename_i D1 O1 D2 O2
    rw [List.length_append, h1] at hl
    obtain rfl : D2 = [] := List.eq_nil_of_length_eq_zero (by omega)
    rw [List.append_nil]
    exact h2
/-- Whole blocks ahead. -/
inductive Full (key : Nat → Int) (bs : Nat) : List Nat → List Nat → Prop
  | nil : Full key bs [] []
  | snoc {D1 O1 D O : List Nat} : Full key bs D O → D1.length = bs → Srt key D1 → D1.Perm O1 → Full key bs (D ++ D1) (O ++ O1)
theorem Full.good {key : Nat → Int} {bs : Nat} {D O : List Nat} (h : Full key bs D O) : ∀ {D2 O2 : List Nat}, Good key bs D2 O2 → Good key bs (D ++ D2) (O ++ O2) := by
  induction h with
  | nil => intro D2 O2 h2; exact h2
  | snoc h1 h2 h3 h4 ih =>
    intro D2 O2 h
    rw [List.append_assoc, List.append_assoc]
    exact ih (.cons h2 h3 h4 h)
theorem Good.split {key : Nat → Int} {bs : Nat} {D O : List Nat} (h : Good key bs D O) (hl : bs ≤ D.length) : ∃ D1 O1 D2 O2, D = D1 ++ D2 ∧ O = O1 ++ O2 ∧ D1.length = bs ∧ Srt key D1 ∧ D1.Perm O1 ∧ Good key bs D2 O2 := by
  cases h with
  | last h1 _ _ => omega
  | cons h1 h2 h3 h4 => exact ⟨_, _, _, _, rfl, rfl, h1, h2, h3, h4⟩
end Go.Proofs.Ytmnpefpglpabmaa

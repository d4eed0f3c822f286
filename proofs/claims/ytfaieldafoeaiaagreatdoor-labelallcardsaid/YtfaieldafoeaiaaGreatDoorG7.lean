/-
  In this text, one behind the other: QSortM, QEncM, QSort, QRot, QIns, QSym.
-/
import Derived.Laws.Cover4
import Derived.Shelf.RegionOpenPlain
import Derived.Test.YtfaieldafoeaiaaGreatDoorG2
import Derived.Test.YtfaieldafoeaiaaGreatDoorG6
/-
  The stable sort by blocks and symmetric merges, as plain lists.
-/
namespace Go.Proofs.YtfaieldafoeaiaaGreatDoor

/-- By the key, and then by the place. -/
def prec (key : Nat → Int) (x y : Nat) : Prop := key x < key y ∨ (key x = key y ∧ x < y)
theorem prec_trans {key : Nat → Int} {x y z : Nat} (h1 : prec key x y) (h2 : prec key y z) : prec key x z := by unfold prec at *; omega
theorem prec_irrefl {key : Nat → Int} {x : Nat} : ¬ prec key x x := by unfold prec; omega
theorem prec_total {key : Nat → Int} {x y : Nat} (h : ¬ prec key y x) (hne : x ≠ y) : prec key x y := by unfold prec at *; omega
theorem prec_cross {key : Nat → Int} {x y : Nat} (h : x < y) : key y < key x ↔ prec key y x := by unfold prec; omega
theorem prec_cross' {key : Nat → Int} {x y : Nat} (h : x < y) (hn : ¬ key y < key x) : prec key x y := by unfold prec; omega

abbrev Srt (key : Nat → Int) (l : List Nat) : Prop := l.Pairwise (prec key)
theorem srt_append {key : Nat → Int} {a b : List Nat} (ha : Srt key a) (hb : Srt key b) (h : ∀ x ∈ a, ∀ y ∈ b, prec key x y) : Srt key (a ++ b) := List.pairwise_append.2 ⟨ha, hb, h⟩
theorem srt_get {key : Nat → Int} {l : List Nat} (h : Srt key l) {i j : Nat} (hj : j < l.length) (hij : i < j) : prec key (l[i]'(by omega)) l[j] := (List.pairwise_iff_getElem.1 h) i j (by omega) hj hij
theorem srt_le {key : Nat → Int} {l : List Nat} (h : Srt key l) {i j : Nat} (hj : j < l.length) (hij : i ≤ j) {y : Nat} (hy : prec key l[j] y) : prec key (l[i]'(by omega)) y := by
  by_cases e : i = j
  · subst e; exact hy
  · exact prec_trans (srt_get h hj (by omega)) hy
theorem srt_ge {key : Nat → Int} {l : List Nat} (h : Srt key l) {i j : Nat} (hj : j < l.length) (hij : i ≤ j) {x : Nat} (hx : prec key x (l[i]'(by omega))) : prec key x l[j] := by
  by_cases e : i = j
  · subst e; exact hx
  · exact prec_trans hx (srt_get h hj (by omega))
theorem mem_take_get {l : List Nat} {k x : Nat} (h : x ∈ l.take k) : ∃ i, ∃ hi : i < l.length, i < k ∧ x = l[i] := by
  rw [List.mem_take_iff_getElem] at h
  obtain ⟨i, hi, rfl⟩ := h
  exact ⟨i, by omega, by omega, rfl⟩
theorem mem_drop_get {l : List Nat} {k x : Nat} (h : x ∈ l.drop k) : ∃ i, ∃ hi : i < l.length, k ≤ i ∧ x = l[i] := by
  obtain ⟨i, hi, rfl⟩ := List.mem_iff_getElem.1 h
  rw [List.length_drop] at hi
  exact ⟨k + i, by omega, by omega, by rw [List.getElem_drop]⟩
theorem srt_take {key : Nat → Int} {l : List Nat} (h : Srt key l) (k : Nat) : Srt key (l.take k) := h.sublist (List.take_sublist _ _)
theorem srt_drop {key : Nat → Int} {l : List Nat} (h : Srt key l) (k : Nat) : Srt key (l.drop k) := h.sublist (List.drop_sublist _ _)
theorem srt_parts {key : Nat → Int} {l : List Nat} (h : Srt key l) (k : Nat) : ∀ x ∈ l.take k, ∀ y ∈ l.drop k, prec key x y := by
  intro x hx y hy
  obtain ⟨i, hi, hik, rfl⟩ := mem_take_get hx
  obtain ⟨j, hj, hjk, rfl⟩ := mem_drop_get hy
  exact srt_get h hj (by omega)

/-- The halves of a symmetric merge. -/
theorem sym_split {key : Nat → Int} {A B : List Nat} (hA : Srt key A) (hB : Srt key B) (hX : ∀ x ∈ A, ∀ y ∈ B, x < y) {s h : Nat} (hs : s ≤ h)
    (h1 : s = 0 ∨ h - s = B.length ∨ ∃ (a : s - 1 < A.length) (b : h - s < B.length), ¬ key B[h - s] < key A[s - 1]) (h2 : s = A.length ∨ h = s ∨ ∃ (a : s < A.length) (b : h - 1 - s < B.length), key B[h - 1 - s] < key A[s]) :
    ∀ x ∈ A.take s ++ B.take (h - s), ∀ y ∈ A.drop s ++ B.drop (h - s), prec key x y := by
  intro x hx y hy
  rcases List.mem_append.1 hx with hx | hx <;> rcases List.mem_append.1 hy with hy | hy
  · exact srt_parts hA s x hx y hy
  · obtain ⟨i, hi, hik, rfl⟩ := mem_take_get hx
    obtain ⟨j, hj, hjk, rfl⟩ := mem_drop_get hy
    rcases h1 with e | e | ⟨a, b, hn⟩
    · omega
    · omega
    · have := prec_cross' (hX _ (List.getElem_mem a) _ (List.getElem_mem b)) hn
      exact srt_le hA a (by omega) (srt_ge hB hj (by omega) this)
  · obtain ⟨i, hi, hik, rfl⟩ := mem_take_get hx
    obtain ⟨j, hj, hjk, rfl⟩ := mem_drop_get hy
    rcases h2 with e | e | ⟨a, b, hn⟩
    · omega
    · omega
    · have := (prec_cross (hX _ (List.getElem_mem a) _ (List.getElem_mem b))).1 hn
      have hle : i ≤ h - 1 - s := by clear hn h1 this; omega
      exact srt_le hB b hle (srt_ge hA hj hjk this)
  · exact srt_parts hB (h - s) x hx y hy

/-- One put into a sorted row, from ahead of it. -/
theorem one_ahead {key : Nat → Int} {B : List Nat} {x i : Nat} (hB : Srt key B) (hX : ∀ y ∈ B, x < y) (h1 : i = 0 ∨ ∃ a : i - 1 < B.length, key B[i - 1] < key x) (h2 : i = B.length ∨ ∃ a : i < B.length, ¬ key B[i] < key x) :
    Srt key (B.take i ++ x :: B.drop i) ∧ (B.take i ++ x :: B.drop i).Perm (x :: B) := by
  have p1 : ∀ y ∈ B.take i, prec key y x := by
    intro y hy
    obtain ⟨j, hj, hjk, rfl⟩ := mem_take_get hy
    rcases h1 with e | ⟨a, hn⟩
    · omega
    · exact srt_le hB a (by omega) ((prec_cross (hX _ (List.getElem_mem a))).1 hn)
  have p2 : ∀ y ∈ B.drop i, prec key x y := by
    intro y hy
    obtain ⟨j, hj, hjk, rfl⟩ := mem_drop_get hy
    rcases h2 with e | ⟨a, hn⟩
    · omega
    · exact srt_ge hB hj (by omega) (prec_cross' (hX _ (List.getElem_mem a)) hn)
  refine ⟨srt_append (srt_take hB i) (List.pairwise_cons.2 ⟨p2, srt_drop hB i⟩) ?_, ?_⟩
  · intro u hu v hv
    rcases List.mem_cons.1 hv with rfl | hv
    · exact p1 u hu
    · exact srt_parts hB i u hu v hv
  · refine List.perm_middle.trans ?_
    rw [List.take_append_drop]
/-- One put into a sorted row, from behind it. -/
theorem one_behind {key : Nat → Int} {A : List Nat} {y i : Nat} (hA : Srt key A) (hX : ∀ x ∈ A, x < y) (h1 : i = 0 ∨ ∃ a : i - 1 < A.length, ¬ key y < key A[i - 1]) (h2 : i = A.length ∨ ∃ a : i < A.length, key y < key A[i]) :
    Srt key (A.take i ++ y :: A.drop i) ∧ (A.take i ++ y :: A.drop i).Perm (A ++ [y]) := by
  have p1 : ∀ x ∈ A.take i, prec key x y := by
    intro x hx
    obtain ⟨j, hj, hjk, rfl⟩ := mem_take_get hx
    rcases h1 with e | ⟨a, hn⟩
    · omega
    · exact srt_le hA a (by omega) (prec_cross' (hX _ (List.getElem_mem a)) hn)
  have p2 : ∀ x ∈ A.drop i, prec key y x := by
    intro x hx
    obtain ⟨j, hj, hjk, rfl⟩ := mem_drop_get hx
    rcases h2 with e | ⟨a, hn⟩
    · omega
    · exact srt_ge hA hj (by omega) ((prec_cross (hX _ (List.getElem_mem a))).1 hn)
  refine ⟨srt_append (srt_take hA i) (List.pairwise_cons.2 ⟨p2, srt_drop hA i⟩) ?_, ?_⟩
  · intro u hu v hv
    rcases List.mem_cons.1 hv with rfl | hv
    · exact p1 u hu
    · exact srt_parts hA i u hu v hv
  · refine List.perm_middle.trans ?_
    rw [List.take_append_drop]
    exact (List.perm_append_singleton y A).symm

/-- A row by blocks, each sorted, and of the same places as another row's. -/
inductive Good (key : Nat → Int) (bs : Nat) : List Nat → List Nat → Prop
  | last {D O : List Nat} : D.length < bs → Srt key D → D.Perm O → Good key bs D O
  | cons {D1 O1 D O : List Nat} : D1.length = bs → Srt key D1 → D1.Perm O1 → Good key bs D O → Good key bs (D1 ++ D) (O1 ++ O)
theorem Good.perm {key : Nat → Int} {bs : Nat} {D O : List Nat} (h : Good key bs D O) : D.Perm O := by
  induction h with
  | last _ _ h => exact h
  | cons _ _ h1 _ ih => exact h1.append ih
theorem Good.whole {key : Nat → Int} {bs : Nat} {D O : List Nat} (h : Good key bs D O) (hl : D.length ≤ bs) : Srt key D := by
  cases h with
  | last _ h _ => exact h
  | cons h1 h2 h3 h4 =>
    rename_i D1 O1 D2 O2
    rw [List.length_append, h1] at hl
    obtain rfl : D2 = [] := List.eq_nil_of_length_eq_zero (by omega)
    rw [List.append_nil]
    exact h2
/-- Whole blocks ahead. -/
inductive Full (key : Nat → Int) (bs : Nat) : List Nat → List Nat → Prop
  | nil : Full key bs [] []
  | snoc {D1 O1 D O : List Nat} : Full key bs D O → D1.length = bs → Srt key D1 → D1.Perm O1 → Full key bs (D ++ D1) (O ++ O1)
theorem Full.good {key : Nat → Int} {bs : Nat} {D O : List Nat} (h : Full key bs D O) : ∀ {D2 O2 : List Nat}, Good key bs D2 O2 → Good key bs (D ++ D2) (O ++ O2) := by
  induction h with
  | nil => intro D2 O2 h2; exact h2
  | snoc h1 h2 h3 h4 ih =>
    intro D2 O2 h
    rw [List.append_assoc, List.append_assoc]
    exact ih (.cons h2 h3 h4 h)
theorem Good.split {key : Nat → Int} {bs : Nat} {D O : List Nat} (h : Good key bs D O) (hl : bs ≤ D.length) : ∃ D1 O1 D2 O2, D = D1 ++ D2 ∧ O = O1 ++ O2 ∧ D1.length = bs ∧ Srt key D1 ∧ D1.Perm O1 ∧ Good key bs D2 O2 := by
  cases h with
  | last h1 _ _ => omega
  | cons h1 h2 h3 h4 => exact ⟨_, _, _, _, rfl, rfl, h1, h2, h3, h4⟩
end Go.Proofs.YtfaieldafoeaiaaGreatDoor

/-
  How the program's Encode reckons deltas: by places that are marked, in the order of their code points.
-/
namespace Go.Proofs.YtfaieldafoeaiaaGreatDoor

/-- The code points at the marked places. -/
def pick (M : Nat → Bool) (l : List Nat) : Nat → List Nat
  | 0 => []
  | n + 1 => pick M l n ++ if M n then [l.getD n 0] else []
theorem pick_length (M : Nat → Bool) (l : List Nat) (n : Nat) : (pick M l n).length = cnt M n := by
  induction n with
  | zero => rfl
  | succ n ih =>
    show (pick M l n ++ _).length = cnt M n + _
    rw [List.length_append, ih]
    split <;> rfl
theorem pick_before (M : Nat → Bool) (l : List Nat) (p : Nat) : ∀ n, n ≤ p → pick (mark M p) l n = pick M l n := by
  intro n
  induction n with
  | zero => intro _; rfl
  | succ n ih =>
    intro h
    show pick (mark M p) l n ++ (if (M n || n == p) = true then [l.getD n 0] else []) = pick M l n ++ _
    rw [ih (by omega), beq_eq_false_iff_ne.2 (show n ≠ p by omega), Bool.or_false]
theorem pick_mark (M : Nat → Bool) (l : List Nat) (p : Nat) (hp : M p = false) : ∀ n, p < n → pick (mark M p) l n = ins (pick M l n) (cnt M p) (l.getD p 0) := by
  intro n
  induction n with
  | zero => intro h; omega
  | succ n ih =>
    intro h
    show pick (mark M p) l n ++ (if (M n || n == p) = true then [l.getD n 0] else []) = ins (pick M l n ++ if M n = true then [l.getD n 0] else []) _ _
    by_cases e : n = p
    · subst e
      rw [pick_before M l n n (Nat.le_refl _), hp]
      unfold ins
      have hl := pick_length M l n
      simp [← hl]
    · rw [ih (by omega), beq_eq_false_iff_ne.2 e, Bool.or_false]
      have hl : cnt M p ≤ (pick M l n).length := by rw [pick_length]; exact cnt_mono M (by omega)
      unfold ins
      rw [List.take_append_of_le_length hl, List.drop_append_of_le_length hl]
      simp
theorem pick_all (M : Nat → Bool) (l : List Nat) : ∀ n, n ≤ l.length → (∀ i, i < n → M i = true) → pick M l n = l.take n := by
  intro n
  induction n with
  | zero => intro _ _; simp [pick]
  | succ n ih =>
    intro h ha
    show pick M l n ++ _ = _
    rw [ih (by omega) (fun i hi => ha i (by omega)), if_pos (ha n (by omega)), List.take_succ_eq_append_getElem (by omega), List.getD_eq_getElem?_getD, List.getElem?_eq_getElem (by omega)]
    rfl
/-- Those below 128 among the first k. -/
def bas (l : List Nat) (k : Nat) : Nat → Bool := fun i => decide (i < k) && decide (l.getD i 0 < 128)
theorem getD_at {l : List Nat} {k : Nat} (h : k < l.length) : l.getD k 0 = l[k] := by rw [List.getD_eq_getElem?_getD, List.getElem?_eq_getElem h]; rfl
theorem bas_small {l : List Nat} {k : Nat} (h : k < l.length) (hs : l[k] < 128) : mark (bas l k) k = bas l (k + 1) := by
  funext i
  unfold mark bas
  by_cases e : i = k
  · subst e; rw [getD_at h]; simp [hs]
  · have : (i < k + 1) ↔ i < k := by omega
    simp [e, this]
theorem bas_great {l : List Nat} {k : Nat} (h : k < l.length) (hs : ¬ l[k] < 128) : bas l k = bas l (k + 1) := by
  funext i
  unfold bas
  by_cases e : i = k
  · subst e; rw [getD_at h]; simp [hs]
  · have : (i < k + 1) ↔ i < k := by omega
    simp [this]
theorem bas_here (l : List Nat) (k : Nat) : bas l k k = false := by simp [bas]
theorem bas_none (l : List Nat) : bas l 0 = fun _ => false := by funext i; simp [bas]
theorem pick_bas (l : List Nat) (k : Nat) : ∀ n, n ≤ l.length → n ≤ k → pick (bas l k) l n = basicOf (l.take n) := by
  intro n
  induction n with
  | zero => intro _ _; rfl
  | succ n ih =>
    intro h hk
    show pick (bas l k) l n ++ _ = _
    rw [ih (by omega) (by omega), List.take_succ_eq_append_getElem (by omega), basicOf, basicOf, List.filter_append]
    congr 1
    unfold bas
    rw [getD_at (by omega)]
    by_cases hs : l[n] < 128
    · simp [hs, show n < k by omega]
    · simp [hs]
/-- The places of the others. -/
def oth (l : List Nat) (k : Nat) : List Nat := (List.range k).filter fun i => decide (128 ≤ l.getD i 0)
theorem oth_small {l : List Nat} {k : Nat} (h : k < l.length) (hs : l[k] < 128) : oth l (k + 1) = oth l k := by
  unfold oth
  rw [List.range_succ, List.filter_append]
  have : decide (128 ≤ l.getD k 0) = false := by rw [getD_at h]; exact decide_eq_false (by omega)
  rw [List.filter_cons, this]
  simp
theorem oth_great {l : List Nat} {k : Nat} (h : k < l.length) (hs : ¬ l[k] < 128) : oth l (k + 1) = oth l k ++ [k] := by
  unfold oth
  rw [List.range_succ, List.filter_append]
  have : decide (128 ≤ l.getD k 0) = true := by rw [getD_at h]; exact decide_eq_true (by omega)
  rw [List.filter_cons, this]
  simp
theorem oth_sorted (l : List Nat) (k : Nat) : (oth l k).Pairwise (· < ·) := List.Pairwise.filter _ List.pairwise_lt_range
theorem oth_mem {l : List Nat} {k x : Nat} : x ∈ oth l k ↔ x < k ∧ 128 ≤ l.getD x 0 := by simp [oth]
theorem oth_le (l : List Nat) (k : Nat) : (oth l k).length ≤ k := by
  have := List.length_filter_le (fun i => decide (128 ≤ l.getD i 0)) (List.range k)
  simpa [oth] using this

/-- A step's delta. -/
theorem step_delta {l : List Nat} {M : Nat → Bool} {N p n i d : Nat} (hp : p < N) (hM : M p = false) (hn : n ≤ l.getD p 0) (hi : i ≤ (l.getD p 0 - n) * (cnt M N + 1) + cnt M p) (hd : d = (l.getD p 0 - n) * (cnt M N + 1) + cnt M p - i) (rest : List Nat) :
    runD (d :: rest) (pick M l N) n i = runD rest (pick (mark M p) l N) (l.getD p 0) (cnt M p + 1) := by
  have hlen := pick_length M l N
  have hc : cnt M p ≤ cnt M N := cnt_mono M (by omega)
  have e : i + d = cnt M p + (cnt M N + 1) * (l.getD p 0 - n) := by rw [hd, Nat.mul_comm (cnt M N + 1)]; omega
  have e1 : (i + d) % (cnt M N + 1) = cnt M p := by rw [e, Nat.add_mul_mod_self_left, Nat.mod_eq_of_lt (by omega)]
  have e2 : (i + d) / (cnt M N + 1) = l.getD p 0 - n := by rw [e, Nat.add_mul_div_left _ _ (by omega), Nat.div_eq_of_lt (by omega)]; omega
  show runD rest (ins _ ((i + d) % ((pick M l N).length + 1)) (n + (i + d) / ((pick M l N).length + 1))) (n + (i + d) / ((pick M l N).length + 1)) ((i + d) % ((pick M l N).length + 1) + 1) = _
  rw [hlen, e1, e2, show n + (l.getD p 0 - n) = l.getD p 0 by omega, pick_mark M l p hM N hp]
/-- What is asked of those that are left. -/
def Left (l : List Nat) (M : Nat → Bool) (N n i : Nat) (D : List Nat) : Prop := ∀ p ∈ D, p < N ∧ M p = false ∧ n ≤ l.getD p 0 ∧ i ≤ (l.getD p 0 - n) * (cnt M N + 1) + cnt M p
theorem Left.next {l : List Nat} {M : Nat → Bool} {N n i p : Nat} {D : List Nat} (h : Left l M N n i (p :: D)) (hs : Srt (fun x => (l.getD x 0 : Int)) (p :: D)) : Left l (mark M p) N (l.getD p 0) (cnt M p + 1) D := by
  intro q hq
  obtain ⟨p1, p2, p3, p4⟩ := h p (List.mem_cons_self ..)
  obtain ⟨q1, q2, q3, q4⟩ := h q (List.mem_cons_of_mem _ hq)
  have hpq : prec (fun x => (l.getD x 0 : Int)) p q := (List.pairwise_cons.1 hs).1 q hq
  have hne : p ≠ q := fun e => prec_irrefl (e ▸ hpq)
  have hcN := cnt_mark M p p2 N
  have hcq := cnt_mark M p p2 q
  rw [if_pos p1] at hcN
  have hcp : cnt M p ≤ cnt M N := cnt_mono M (by omega)
  have hle : l.getD p 0 ≤ l.getD q 0 := by
    unfold prec at hpq
    simp only at hpq
    omega
  refine ⟨q1, ?_, hle, ?_⟩
  · show (M q || q == p) = false
    rw [q2, beq_eq_false_iff_ne.2 (Ne.symm hne)]; rfl
  · rw [hcN, hcq]
    by_cases e : l.getD p 0 = l.getD q 0
    · have : p < q := by unfold prec at hpq; simp only at hpq; omega
      rw [if_pos this]
      have := cnt_mono M (Nat.le_of_lt this)
      omega
    · have h1 : 1 ≤ l.getD q 0 - l.getD p 0 := by omega
      have h2 : 1 * (cnt M N + 1 + 1) ≤ (l.getD q 0 - l.getD p 0) * (cnt M N + 1 + 1) := Nat.mul_le_mul_right _ h1
      omega
/-- Where the deltas stand. -/
structure Run (l : List Nat) (M : Nat → Bool) (n i bias h : Nat) (T : List UInt8) : Prop where
  ex : ∃ ds, (∀ rest, tells (basicOf l).length (ds ++ rest) 72 (basicOf l).length = T ++ tells (basicOf l).length rest bias h) ∧ (∀ rest, (runD (ds ++ rest) (basicOf l) 128 0).1 = (runD rest (pick M l l.length) n i).1)
theorem Run.start (l : List Nat) : Run l (bas l l.length) 128 0 72 (basicOf l).length [] :=
  ⟨[], fun _ => rfl, fun rest => by rw [pick_bas l l.length l.length (Nat.le_refl _) (Nat.le_refl _), List.take_length]; rfl⟩
theorem Run.next {l : List Nat} {M : Nat → Bool} {n i bias h p d : Nat} {T : List UInt8} {D : List Nat} (hr : Run l M n i bias h T) (hl : Left l M l.length n i (p :: D)) (hd : d = (l.getD p 0 - n) * (cnt M l.length + 1) + cnt M p - i) :
    Run l (mark M p) (l.getD p 0) (cnt M p + 1) (adapt d (h + 1) (h == (basicOf l).length)) (h + 1) (T ++ tellK d bias 36) := by
  obtain ⟨ds, h1, h2⟩ := hr.ex
  obtain ⟨p1, p2, p3, p4⟩ := hl p (List.mem_cons_self ..)
  refine ⟨ds ++ [d], fun rest => ?_, fun rest => ?_⟩
  · rw [List.append_assoc, List.append_assoc]
    exact h1 (d :: rest)
  · rw [List.append_assoc]
    exact (h2 (d :: rest)).trans (by rw [step_delta p1 p2 p3 p4 hd])
theorem Run.done {l : List Nat} {M : Nat → Bool} {n i bias h : Nat} {T : List UInt8} (hr : Run l M n i bias h T) (hs : ∀ x ∈ l, sc x = true) (hM : ∀ i, i < l.length → M i = true) :
    (basicOf l).map UInt8.ofNat ++ (if (basicOf l).length = 0 then [] else [45]) ++ T = penc l := by
  obtain ⟨ds, h1, h2⟩ := hr.ex
  have a1 := h1 []
  have a2 := h2 []
  rw [List.append_nil] at a1 a2
  rw [pick_all M l l.length (Nat.le_refl _) hM, List.take_length] at a2
  have hr2 := run_deltas hs
  have hi : Inv (basicOf l) 128 0 := ⟨fun x hx => Nat.le_of_lt (basicOf_small l x hx), fun x hx => basicOf_small l x (List.mem_of_mem_drop hx)⟩
  have e : ds = deltas l l.length 128 0 (basicOf l).length := runD_inj hi _ _ (a2.trans hr2.symm)
  unfold penc
  rw [← e, a1]
  simp [tells]
theorem Left.start {l : List Nat} {D : List Nat} (hD : D.Perm (oth l l.length)) : Left l (bas l l.length) l.length 128 0 D := by
  intro p hp
  obtain ⟨h1, h2⟩ := oth_mem.1 (hD.subset hp)
  refine ⟨h1, ?_, h2, Nat.zero_le _⟩
  unfold bas
  rw [decide_eq_false (show ¬ l.getD p 0 < 128 by omega), Bool.and_false]
theorem cnt_bas (l : List Nat) : cnt (bas l l.length) l.length = (basicOf l).length := by
  rw [← pick_length (bas l l.length) l, pick_bas l l.length l.length (Nat.le_refl _) (Nat.le_refl _), List.take_length]
theorem bas_oth (l : List Nat) : ∀ k, k ≤ l.length → (basicOf (l.take k)).length + (oth l k).length = k := by
  intro k
  induction k with
  | zero => intro _; rfl
  | succ k ih =>
    intro h
    have := ih (by omega)
    by_cases hs : l[k] < 128
    · rw [oth_small (by omega) hs, List.take_succ_eq_append_getElem (by omega), basicOf, List.filter_append, List.length_append]
      simp only [basicOf] at this
      simp [hs]
      omega
    · rw [oth_great (by omega) hs, List.take_succ_eq_append_getElem (by omega), basicOf, List.filter_append, List.length_append, List.length_append]
      simp only [basicOf] at this
      simp [hs]
      omega
end Go.Proofs.YtfaieldafoeaiaaGreatDoor

/-
  slices.SortStableFunc at the program's comparison: the row's words, the comparison, swapRange.
-/
namespace Go.Proofs.YtfaieldafoeaiaaGreatDoor
open Go.RowKit

/-- The row of places in block blk, behind some steps. -/
structure RowAt (blk : Nat) (d : List Nat) (w0 W : World) : Prop where
  lt : blk < w0.heap.size
  kept : Kept [blk] w0 W
  cell : ∀ (i x : Nat), d[i]? = some x → W.cell? ⟨blk, i, none⟩ = some (.int .i64 (x : Int)) ∧ W.frozen? ⟨blk, i, none⟩ = false

theorem RowAt.drewN {blk : Nat} {d : List Nat} {w0 W : World} (h : RowAt blk d w0 W) (n : Nat) : RowAt blk d w0 (W.drewN n) := ⟨h.lt, h.kept.drewN n, h.cell⟩
theorem RowAt.c {blk : Nat} {d : List Nat} {w0 W : World} (h : RowAt blk d w0 W) {i x : Nat} (hi : d[i]? = some x) : W.cell? ⟨blk, i, none⟩ = some (.int .i64 (x : Int)) := (h.cell i x hi).1
theorem RowAt.f {blk : Nat} {d : List Nat} {w0 W : World} (h : RowAt blk d w0 W) {i x : Nat} (hi : d[i]? = some x) : W.frozen? ⟨blk, i, none⟩ = false := (h.cell i x hi).2
/-- One cell written. -/
theorem RowAt.put {blk : Nat} {d : List Nat} {w0 W : World} (h : RowAt blk d w0 W) {i : Nat} (hi : i < d.length) (y : Nat) : RowAt blk (d.set i y) w0 (W.setCell ⟨blk, i, none⟩ (.int .i64 (y : Int))) := by
  refine ⟨h.lt, h.kept.setCell (p := ⟨blk, i, none⟩) (.inl (by simp)) _, fun j x hj => ?_⟩
  rw [World.frozen?_setCell]
  have hjl : j < d.length := by have := (List.getElem?_eq_some_iff.1 hj).1; simpa using this
  refine ⟨?_, (h.cell j d[j] (List.getElem?_eq_getElem hjl)).2⟩
  by_cases e : i = j
  · subst e
    rw [List.getElem?_set_self hi] at hj
    cases hj
    exact World.cell?_setCell_same' _ _ _ (by rw [(h.cell i d[i] (List.getElem?_eq_getElem hi)).1]; rfl)
  · rw [List.getElem?_set_ne e] at hj
    rw [World.cell?_setCell_other _ _ _ _ (by intro e'; simp only [Addr.mk.injEq] at e'; omega)]
    exact (h.cell j x hj).1
theorem set_two (P Q S : List Nat) (x y : Nat) : (((P ++ x :: (Q ++ y :: S)).set P.length y).set (P.length + 1 + Q.length) x) = P ++ y :: (Q ++ x :: S) := by
  rw [List.set_append_right _ _ (Nat.le_refl _), Nat.sub_self, List.set_cons_zero, List.set_append_right _ _ (by omega), show P.length + 1 + Q.length - P.length = Q.length + 1 by omega, List.set_cons_succ, List.set_append_right _ _ (Nat.le_refl _), Nat.sub_self, List.set_cons_zero]
theorem set_two' (P Q S : List Nat) (x y : Nat) : (((P ++ x :: (Q ++ y :: S)).set (P.length + 1 + Q.length) x).set P.length y) = P ++ y :: (Q ++ x :: S) := by
  rw [List.set_comm _ _ (by omega)]; exact set_two P Q S x y
theorem get_one (P Q S : List Nat) (x y : Nat) : (P ++ x :: (Q ++ y :: S))[P.length]? = some x := by simp
theorem get_two (P Q S : List Nat) (x y : Nat) : (P ++ x :: (Q ++ y :: S))[P.length + 1 + Q.length]? = some y := by
  rw [List.getElem?_append_right (by omega), show P.length + 1 + Q.length - P.length = Q.length + 1 by omega, List.getElem?_cons_succ, List.getElem?_append_right (Nat.le_refl _)]; simp
/-- Two cells exchanged. -/
theorem RowAt.swap {blk : Nat} {P Q S : List Nat} {x y : Nat} {w0 W : World} {i j : Nat} (h : RowAt blk (P ++ x :: (Q ++ y :: S)) w0 W) (hi : i = P.length) (hj : j = P.length + 1 + Q.length) :
    RowAt blk (P ++ y :: (Q ++ x :: S)) w0 ((W.setCell ⟨blk, i, none⟩ (.int .i64 (y : Int))).setCell ⟨blk, j, none⟩ (.int .i64 (x : Int))).drew := by
  subst hi; subst hj
  have := (h.put (i := P.length) (by simp) y).put (i := P.length + 1 + Q.length) (by simp; omega) x
  rw [set_two] at this
  exact this.drewN 1
theorem RowAt.swap' {blk : Nat} {P Q S : List Nat} {x y : Nat} {w0 W : World} {i j : Nat} (h : RowAt blk (P ++ x :: (Q ++ y :: S)) w0 W) (hi : i = P.length) (hj : j = P.length + 1 + Q.length) :
    RowAt blk (P ++ y :: (Q ++ x :: S)) w0 ((W.setCell ⟨blk, j, none⟩ (.int .i64 (x : Int))).setCell ⟨blk, i, none⟩ (.int .i64 (y : Int))).drew := by
  subst hi; subst hj
  have := (h.put (i := P.length + 1 + Q.length) (by simp; omega) x).put (i := P.length) (by simp) y
  rw [set_two'] at this
  exact this.drewN 1
/-- What is asked of the comparison. -/
def CmpOk (key : Nat → Int) (N blk bl : Nat) (w0 : World) : Prop :=
  ∀ (W : World) (x y : Nat), Kept [blk] w0 W → x < N → y < N → Calls Tryz.prog 50 #[.int .i64 (x : Int), .int .i64 (y : Int), .pointer (some ⟨bl, 0, none⟩)] W fun e w' => e = .returned (.int .i64 (cmpI (key x) (key y))) ∧ ∃ q, w' = W.drewN q

theorem qcmp_q (a b : Int) (w : World) :
    Calls Tryz.prog 51 #[.int .i32 a, .int .i32 b] w fun e w' => e = .returned (.int .i64 (cmpI a b)) ∧ w' = w := (qcmp_any a b w).mono fun _ _ ⟨he, hw⟩ => ⟨he, hw.symm⟩
theorem keyAt (l : List Int) {x : Nat} (hx : x < l.length) : l[x]? = some (l.getD x 0) := by
  rw [List.getElem?_eq_getElem hx, List.getD_eq_getElem?_getD, List.getElem?_eq_getElem hx]; rfl
set_option maxHeartbeats 400000 in
theorem q2_any (bl : Nat) (A : Option Addr) (l : List Int) (cap : Nat) (blk : Nat) (w0 : World) (hbox : w0.cell? ⟨bl, 0, none⟩ = some (.slice A l.length cap)) (hbl : bl < w0.heap.size) (hne : bl ≠ blk) (hR : Runes w0 A l)
    (hA : ∀ (i : Nat) (c : Int), l[i]? = some c → ∃ b off, A = some ⟨b, off, none⟩ ∧ b ≠ blk) : CmpOk (fun x => l.getD x 0) l.length blk bl w0 := by
  intro W x y hk hx hy
  have hc : W.cell? ⟨bl, 0, none⟩ = some (.slice A l.length cap) := (hk.cell (p := ⟨bl, 0, none⟩) hbl (by simpa using hne)).trans hbox
  obtain ⟨b, off, rfl, hlt, hcx⟩ := hR x _ (keyAt l hx)
  obtain ⟨b', off', e, _, hcy⟩ := hR y _ (keyAt l hy)
  cases e
  obtain ⟨b'', off'', e'', hbn⟩ := hA x _ (keyAt l hx)
  cases e''
  have hcx' : W.cell? ⟨b, off + x, none⟩ = some (.int .i32 (l.getD x 0)) := (hk.cell (p := ⟨b, off + x, none⟩) hlt (by simpa using hbn)).trans hcx
  have hcy' : W.cell? ⟨b, off + y, none⟩ = some (.int .i32 (l.getD y 0)) := (hk.cell (p := ⟨b, off + y, none⟩) hlt (by simpa using hbn)).trans hcy
  obtain ⟨u, hu⟩ : ∃ u, l.getD x 0 = u := ⟨_, rfl⟩
  obtain ⟨v, hv⟩ : ∃ u, l.getD y 0 = u := ⟨_, rfl⟩
  simp only [hu, hv] at hcx' hcy' ⊢
  clear hcx hcy hR hbox hk hA hu hv
  have hxi : (x : Int) < (l.length : Int) := by omega
  have hyi : (y : Int) < (l.length : Int) := by omega
  go_enter Tryz.func50, Tryz.ntmps50
  go_wp2_with fail
  go_quiet ((go_at_call 51; exact Calls.quiet_of_same (qcmp_q _ _ _)))
  go_wp2
  go_ret
  exact ⟨rfl, _, rfl⟩

theorem mid_cons {A : List Nat} {i : Nat} (h : i < A.length) : A.drop i = A[i] :: A.drop (i + 1) := List.drop_eq_getElem_cons h
theorem take_app {A : List Nat} {i : Nat} (h : i < A.length) : A.take (i + 1) = A.take i ++ [A[i]] := List.take_succ_eq_append_getElem h

set_option maxHeartbeats 1000000 in
set_option maxRecDepth 100000 in
theorem swapRange_any (bl blk cap : Nat) (X A M B Y : List Nat) (a b n : Nat) (w0 w : World) (ha : a = X.length) (hA : A.length = n) (hB : B.length = n) (hb : b = a + n + M.length) (hl : X.length + A.length + M.length + B.length + Y.length ≤ 1000)
    (h : RowAt blk (X ++ A ++ M ++ B ++ Y) w0 w) :
    Calls Tryz.prog 108 #[.slice (some ⟨blk, 0, none⟩) (X.length + A.length + M.length + B.length + Y.length) cap, .int .i64 a, .int .i64 b, .int .i64 n, .func (.func 50) #[] #[.pointer (some ⟨bl, 0, none⟩)]] w fun e w' =>
      e = .returned (.tuple #[]) ∧ RowAt blk (X ++ B ++ M ++ A ++ Y) w0 w' := by
  have HH := Lib.hid h
  obtain ⟨N, hN⟩ : ∃ N, X.length + A.length + M.length + B.length + Y.length = N := ⟨_, rfl⟩
  have hbN : b + n ≤ N := by omega
  rw [hN]
  have hN1 : N ≤ 1000 := by omega
  have hab : a + n ≤ b := by omega
  clear h hl
  have HX : Hid (a = X.length ∧ A.length = n ∧ B.length = n ∧ b = a + n + M.length) := ⟨ha, hA, hB, hb⟩
  clear ha hA hB hb hN
  go_enter Tryz.func108, Tryz.ntmps108
  go_wp2
  go_loopw [10] (fun s wr => ∃ i : Nat, s = .int .i64 i ∧ i ≤ n ∧ RowAt blk (X ++ (B.take i ++ A.drop i) ++ M ++ (A.take i ++ B.drop i) ++ Y) w0 wr) (fun s _ => n - (intOf s).toNat)
  case atStart => exact ⟨0, rfl, by omega, by simpa using HH.out⟩
  case round =>
    obtain ⟨i, rfl, hi, hr⟩ := hrel
    by_cases hlt : i < n
    · obtain ⟨hx1, hx2, hx3, hx4⟩ := HX.out
      have e : X ++ (B.take i ++ A.drop i) ++ M ++ (A.take i ++ B.drop i) ++ Y = (X ++ B.take i) ++ A[i] :: ((A.drop (i + 1) ++ M ++ A.take i) ++ B[i] :: (B.drop (i + 1) ++ Y)) := by
        rw [mid_cons (A := A) (i := i) (by omega), mid_cons (A := B) (i := i) (by omega)]; simp only [List.append_assoc, List.cons_append]
      have e2 : X ++ (B.take (i + 1) ++ A.drop (i + 1)) ++ M ++ (A.take (i + 1) ++ B.drop (i + 1)) ++ Y = (X ++ B.take i) ++ B[i] :: ((A.drop (i + 1) ++ M ++ A.take i) ++ A[i] :: (B.drop (i + 1) ++ Y)) := by
        rw [take_app (A := A) (i := i) (by omega), take_app (A := B) (i := i) (by omega)]; simp only [List.append_assoc, List.cons_append, List.nil_append]
      have hi1 : a + i = (X ++ B.take i).length := by simp; omega
      have hj1 : b + i = (X ++ B.take i).length + 1 + (A.drop (i + 1) ++ M ++ A.take i).length := by simp; omega
      obtain ⟨x, hx⟩ : ∃ x, A[i] = x := ⟨_, rfl⟩
      obtain ⟨y, hy⟩ : ∃ y, B[i] = y := ⟨_, rfl⟩
      rw [hx, hy] at e e2
      rw [e] at hr
      have c1 := hr.c (i := a + i) (x := x) (by rw [hi1]; exact get_one _ _ _ _ _)
      have c2 := hr.c (i := b + i) (x := y) (by rw [hj1]; exact get_two _ _ _ _ _)
      have f1 := hr.f (i := a + i) (x := x) (by rw [hi1]; exact get_one _ _ _ _ _)
      have f2 := hr.f (i := b + i) (x := y) (by rw [hj1]; exact get_two _ _ _ _ _)
      have HS := Lib.hid (hr.swap hi1 hj1)
      rw [← e2] at HS
      clear hr e e2 hi1 hj1 hx hy hx1 hx2 hx3 hx4
      have c3 : (wr.setCell ⟨blk, a + i, none⟩ (.int .i64 (y : Int))).cell? ⟨blk, b + i, none⟩ = some (.int .i64 (y : Int)) := by
        rw [World.cell?_setCell_other _ _ _ _ (by intro e'; simp only [Addr.mk.injEq] at e'; omega)]; exact c2
      go_wp2_with fail
      go_big_region
      clear c1 c2 c3 f1 f2
      generalize ((wr.setCell ⟨blk, a + i, none⟩ (.int .i64 (y : Int))).setCell ⟨blk, b + i, none⟩ (.int .i64 (x : Int))).drew = w3 at HS ⊢
      go_wp2
      go_roundw
      case rel => exact ⟨i + 1, by go_num, by omega, HS.out⟩
      case measure => simp [intOf]; omega
    · have HR : Hid (RowAt blk (X ++ B ++ M ++ A ++ Y) w0 wr) := by
        obtain ⟨hx1, hx2, hx3, hx4⟩ := HX.out
        obtain rfl : i = n := by omega
        show RowAt blk (X ++ B ++ M ++ A ++ Y) w0 wr
        rw [List.take_of_length_le (by omega), List.take_of_length_le (by omega), List.drop_eq_nil_of_le (by omega), List.drop_eq_nil_of_le (by omega), List.append_nil, List.append_nil] at hr
        exact hr
      clear hr HX HH
      go_wp2
      go_end0
      exact ⟨rfl, HR.out⟩
end Go.Proofs.YtfaieldafoeaiaaGreatDoor

/-
  slices.SortStableFunc at the program's comparison: rotate, the insertion sort.
-/
namespace Go.Proofs.YtfaieldafoeaiaaGreatDoor
open Go.RowKit

set_option maxHeartbeats 1000000 in
set_option maxRecDepth 100000 in
theorem rotate_any (bl blk cap N : Nat) (X A B Y : List Nat) (a m b : Nat) (w0 w : World) (ha : a = X.length) (hm : m = a + A.length) (hb : b = m + B.length) (hN : N = b + Y.length) (hl : N ≤ 1000) (hA0 : 0 < A.length) (hB0 : 0 < B.length)
    (h : RowAt blk (X ++ A ++ B ++ Y) w0 w) :
    Calls Tryz.prog 106 #[.slice (some ⟨blk, 0, none⟩) N cap, .int .i64 a, .int .i64 m, .int .i64 b, .func (.func 50) #[] #[.pointer (some ⟨bl, 0, none⟩)]] w fun e w' =>
      e = .returned (.tuple #[]) ∧ RowAt blk (X ++ B ++ A ++ Y) w0 w' := by
  have HH := Lib.hid h
  clear h
  have hab : a < m := by omega
  have hmb : m < b := by omega
  have hbN : b ≤ N := by omega
  have HX : Hid (a = X.length ∧ m = a + A.length ∧ b = m + B.length ∧ N = b + Y.length) := ⟨ha, hm, hb, hN⟩
  clear ha hm hb hN hA0 hB0
  go_enter Tryz.func106, Tryz.ntmps106
  go_wp2
  go_loopw [10, 11] (fun s t wr => ∃ (i j : Nat) (P A' B' Q : List Nat), s = .int .i64 i ∧ t = .int .i64 j ∧ 0 < i ∧ 0 < j ∧ i + P.length = m ∧ A'.length = i ∧ B'.length = j ∧ m + j + Q.length = N ∧ P ++ B' ++ A' ++ Q = X ++ B ++ A ++ Y ∧ RowAt blk (P ++ A' ++ B' ++ Q) w0 wr) (fun s t _ => (intOf s).toNat + (intOf t).toNat)
  case atStart =>
    obtain ⟨h1, h2, h3, h4⟩ := HX.out
    exact ⟨A.length, B.length, X, A, B, Y, by go_num, by go_num, by omega, by omega, by omega, rfl, rfl, by omega, rfl, HH.out⟩
  case round =>
    obtain ⟨i, j, P, A', B', Q, rfl, rfl, hi, hj, hP, hA, hB, hQ, he, hr⟩ := hrel
    have HE := Lib.hid he
    have HR := Lib.hid hr
    clear he hr HH
    have HP : Hid (i + P.length = m ∧ A'.length = i ∧ B'.length = j ∧ m + j + Q.length = N) := ⟨hP, hA, hB, hQ⟩
    have him : i ≤ m := by omega
    have hjN : m + j ≤ N := by omega
    clear hP hA hB hQ
    by_cases hij : i = j
    · have hne : ((i : Int) != (j : Int)) = false := by rw [bne_eq_false_iff_eq]; omega
      have HS : Hid (∀ w1, RowAt blk (P ++ A' ++ B' ++ Q) w0 w1 → Calls Tryz.prog 108 #[.slice (some ⟨blk, 0, none⟩) N cap, .int .i64 ((m : Int) - (i : Int)), .int .i64 m, .int .i64 i, .func (.func 50) #[] #[.pointer (some ⟨bl, 0, none⟩)]] w1 fun e w' => e = .returned (.tuple #[]) ∧ RowAt blk (X ++ B ++ A ++ Y) w0 w') := by
        intro w1 h1
        obtain ⟨hP, hA, hB, hQ⟩ := HP.out
        have := swapRange_any bl blk cap P A' [] B' Q P.length m i w0 w1 rfl hA (by omega) (by simp; omega) (by simp; omega) (by simpa using h1)
        rw [show P.length + A'.length + ([] : List Nat).length + B'.length + Q.length = N by simp; omega, show ((P.length : Nat) : Int) = (m : Int) - (i : Int) by omega] at this
        refine this.mono ?_
        rintro e w' ⟨he, hr⟩
        exact ⟨he, by rw [← HE.out]; simpa using hr⟩
      clear hij
      go_wp2_with (go_at_call 108; refine (HS.out _ HR.out).mono ?_; rintro e w' ⟨rfl, hr⟩)
      go_end0
      exact ⟨rfl, hr⟩
    · have hne : ((i : Int) != (j : Int)) = true := by rw [bne_iff_ne]; omega
      by_cases hgt : j < i
      · obtain ⟨A1, A2, hA12, hA1⟩ : ∃ A1 A2, A' = A1 ++ A2 ∧ A1.length = j := by
          obtain ⟨hP, hA, hB, hQ⟩ := HP.out
          exact ⟨A'.take j, A'.drop j, (List.take_append_drop _ _).symm, by simp; omega⟩
        have HS : Hid (∀ w1, RowAt blk (P ++ A' ++ B' ++ Q) w0 w1 → Calls Tryz.prog 108 #[.slice (some ⟨blk, 0, none⟩) N cap, .int .i64 ((m : Int) - (i : Int)), .int .i64 m, .int .i64 j, .func (.func 50) #[] #[.pointer (some ⟨bl, 0, none⟩)]] w1 fun e w' => e = .returned (.tuple #[]) ∧ RowAt blk ((P ++ B') ++ A2 ++ A1 ++ Q) w0 w') := by
          intro w1 h1
          obtain ⟨hP, hA, hB, hQ⟩ := HP.out
          subst hA12
          rw [List.length_append] at hA
          have := swapRange_any bl blk cap P A1 A2 B' Q P.length m j w0 w1 rfl hA1 hB (by omega) (by omega) (by simpa using h1)
          rw [show P.length + A1.length + A2.length + B'.length + Q.length = N by omega, show ((P.length : Nat) : Int) = (m : Int) - (i : Int) by omega] at this
          refine this.mono ?_
          rintro e w' ⟨he, hr⟩
          exact ⟨he, by simpa using hr⟩
        have HA := Lib.hid (And.intro hA12 hA1)
        clear hA12 hA1
        clear hij
        go_wp2_with (go_at_call 108; refine (HS.out _ HR.out).mono ?_; rintro e w' ⟨rfl, hr⟩; have HR2 := Lib.hid hr; clear hr)
        go_roundw
        case rel =>
          obtain ⟨hP, hA, hB, hQ⟩ := HP.out
          obtain ⟨hA12, hA1⟩ := HA.out
          have hA2 := hA
          rw [hA12, List.length_append] at hA2
          exact ⟨i - j, j, P ++ B', A2, A1, Q, by go_num, by go_num, by omega, by omega, by simp; omega, by omega, hA1, by omega, by rw [← HE.out, hA12]; simp, HR2.out⟩
        case measure => simp [intOf]; omega
      · obtain ⟨B1, B2, hB12, hB2⟩ : ∃ B1 B2, B' = B1 ++ B2 ∧ B2.length = i := by
          obtain ⟨hP, hA, hB, hQ⟩ := HP.out
          exact ⟨B'.take (j - i), B'.drop (j - i), (List.take_append_drop _ _).symm, by simp; omega⟩
        have HS : Hid (∀ w1, RowAt blk (P ++ A' ++ B' ++ Q) w0 w1 → Calls Tryz.prog 108 #[.slice (some ⟨blk, 0, none⟩) N cap, .int .i64 ((m : Int) - (i : Int)), .int .i64 ((m : Int) + (j : Int) - (i : Int)), .int .i64 i, .func (.func 50) #[] #[.pointer (some ⟨bl, 0, none⟩)]] w1 fun e w' => e = .returned (.tuple #[]) ∧ RowAt blk (P ++ B2 ++ B1 ++ (A' ++ Q)) w0 w') := by
          intro w1 h1
          obtain ⟨hP, hA, hB, hQ⟩ := HP.out
          subst hB12
          rw [List.length_append] at hB
          have := swapRange_any bl blk cap P A' B1 B2 Q P.length (m + j - i) i w0 w1 rfl hA hB2 (by omega) (by omega) (by simpa using h1)
          rw [show P.length + A'.length + B1.length + B2.length + Q.length = N by omega, show ((P.length : Nat) : Int) = (m : Int) - (i : Int) by omega, show ((m + j - i : Nat) : Int) = (m : Int) + (j : Int) - (i : Int) by omega] at this
          refine this.mono ?_
          rintro e w' ⟨he, hr⟩
          exact ⟨he, by simpa using hr⟩
        have HA := Lib.hid (And.intro hB12 hB2)
        clear hB12 hB2
        have hlt : i < j := by omega
        clear hij
        go_wp2_with (go_at_call 108; refine (HS.out _ HR.out).mono ?_; rintro e w' ⟨rfl, hr⟩; have HR2 := Lib.hid hr; clear hr)
        go_roundw
        case rel =>
          obtain ⟨hP, hA, hB, hQ⟩ := HP.out
          obtain ⟨hB12, hB2⟩ := HA.out
          have hB3 := hB
          rw [hB12, List.length_append] at hB3
          exact ⟨i, j - i, P, B2, B1, A' ++ Q, by go_num, by go_num, by omega, by omega, by omega, hB2, by omega, by simp; omega, by rw [← HE.out, hB12]; simp, HR2.out⟩
        case measure => simp [intOf]; omega
end Go.Proofs.YtfaieldafoeaiaaGreatDoor

/-
  slices.SortStableFunc at the program's comparison: the insertion sort of one block.
-/
namespace Go.Proofs.YtfaieldafoeaiaaGreatDoor
open Go.RowKit

theorem cmpI_neg {a b : Int} (h : a < b) : decide (cmpI a b < 0) = true := by unfold cmpI; rw [if_pos h]; rfl
theorem cmpI_not {a b : Int} (h : ¬ a < b) : decide (cmpI a b < 0) = false := by unfold cmpI; rw [if_neg h]; split <;> rfl
theorem CmpOk.lt {key : Nat → Int} {N blk bl : Nat} {w0 : World} (h : CmpOk key N blk bl w0) {W : World} {x y : Nat} (hk : Kept [blk] w0 W) (hx : x < N) (hy : y < N) (n : Nat) :
    Calls Tryz.prog 50 #[.int .i64 (x : Int), .int .i64 (y : Int), .pointer (some ⟨bl, 0, none⟩)] (W.drewN n) fun e w'' => e = .returned (.int .i64 (cmpI (key x) (key y))) ∧ ∃ m, w'' = W.drewN m :=
  Calls.quiet_of (h (W.drewN n) x y (hk.drewN n) hx hy)

set_option maxHeartbeats 1000000 in
set_option maxRecDepth 100000 in
theorem ins_any (key : Nat → Int) (bl blk cap N M : Nat) (X A Y : List Nat) (a b : Nat) (w0 w : World) (HC : Hid (CmpOk key M blk bl w0)) (hM : ∀ x ∈ A, x < M) (ha : a = X.length) (hb : b = a + A.length) (hN : N = b + Y.length) (hl : N ≤ 1000)
    (hA : A.Pairwise (· < ·)) (h : RowAt blk (X ++ A ++ Y) w0 w) :
    Calls Tryz.prog 98 #[.slice (some ⟨blk, 0, none⟩) N cap, .int .i64 a, .int .i64 b, .func (.func 50) #[] #[.pointer (some ⟨bl, 0, none⟩)]] w fun e w' =>
      e = .returned (.tuple #[]) ∧ ∃ C, C.Perm A ∧ Srt key C ∧ RowAt blk (X ++ C ++ Y) w0 w' := by
  have HH := Lib.hid h
  clear h
  have hab : a ≤ b := by omega
  have hbN : b ≤ N := by omega
  have HX : Hid (a = X.length ∧ b = a + A.length ∧ N = b + Y.length) := ⟨ha, hb, hN⟩
  have HA := Lib.hid (And.intro hM hA)
  clear ha hb hN hA hM
  go_enter Tryz.func98, Tryz.ntmps98
  go_wp2
  go_loopw [8] (fun s wr => ∃ (i : Nat) (S R : List Nat), s = .int .i64 i ∧ a < i ∧ i ≤ b + 1 ∧ ((i ≤ b ∧ a + S.length = i ∧ i + R.length = b) ∨ (i = b + 1 ∧ R = [] ∧ S = [])) ∧ Srt key S ∧ (S ++ R).Perm A ∧ (∃ T, A = T ++ R ∧ S.Perm T) ∧ RowAt blk (X ++ S ++ R ++ Y) w0 wr) (fun s _ => b + 1 - (intOf s).toNat)
  case atStart =>
    obtain ⟨h1, h2, h3⟩ := HX.out
    cases A with
    | nil => exact ⟨a + 1, [], [], by go_num, by omega, by omega, .inr ⟨by simp at h2; omega, rfl, rfl⟩, List.Pairwise.nil, List.Perm.refl _, ⟨[], rfl, List.Perm.refl _⟩, by simpa using HH.out⟩
    | cons x A => exact ⟨a + 1, [x], A, by go_num, by omega, by simp at h2; omega, .inl ⟨by simp at h2; omega, by simp, by simp at h2; omega⟩, List.pairwise_singleton _ _, List.Perm.refl _, ⟨[x], rfl, List.Perm.refl _⟩, by simpa using HH.out⟩
  case round =>
    obtain ⟨i, S, R, rfl, hai, hib, hshape, hS, hp, hT, hr⟩ := hrel
    clear HH
    by_cases hlt : i < b
    · obtain ⟨hsl, hrl⟩ : a + S.length = i ∧ i + R.length = b := by
        rcases hshape with ⟨_, h1, h2⟩ | ⟨h1, _⟩
        · exact ⟨h1, h2⟩
        · omega
      clear hshape
      obtain ⟨e, R', rfl⟩ : ∃ e R', R = e :: R' := by
        cases R with
        | nil => simp at hrl; omega
        | cons e R' => exact ⟨e, R', rfl⟩
      rw [List.length_cons] at hrl
      obtain ⟨T, hAT, hST⟩ := hT
      have HSe : Hid (∀ x ∈ S, x < e) := by
        intro x hx
        have := HA.out.2
        rw [hAT] at this
        exact (List.pairwise_append.1 this).2.2 x (hST.subset hx) e (by simp)
      have HM1 : Hid (∀ x ∈ S, x < M) := fun x hx => HA.out.1 x (by rw [hAT]; exact List.mem_append_left _ (hST.subset hx))
      have heM : e < M := HA.out.1 e (by rw [hAT]; simp)
      have HS := Lib.hid hS
      have HP := Lib.hid hp
      have HAT := Lib.hid (And.intro hAT hST)
      have HL : Hid (a + S.length = i ∧ i + (R'.length + 1) = b) := ⟨hsl, hrl⟩
      have HR := Lib.hid hr
      clear hS hp hAT hST hsl hrl hr
      go_wp2
      go_loopw [9] (fun s wr2 => ∃ (j : Nat) (S1 S2 : List Nat), s = .int .i64 j ∧ a ≤ j ∧ j ≤ i ∧ S = S1 ++ S2 ∧ a + S1.length = j ∧ (∀ y ∈ S2, prec key e y) ∧ RowAt blk (X ++ S1 ++ e :: S2 ++ R' ++ Y) w0 wr2) (fun s _ => (intOf s).toNat)
      case atStart => exact ⟨i, S, [], rfl, by omega, Nat.le_refl _, by simp, HL.out.1, by simp, by simpa using HR.out⟩
      case round =>
        obtain ⟨j, S1, S2, rfl, haj, hji, hS12, hj1, hgt, hr2⟩ := hrel
        clear HR
        have HS12 := Lib.hid (And.intro hS12 (And.intro hj1 hgt))
        clear hS12 hj1 hgt
        have OUT : Hid ((j ≤ a ∨ ∃ S1' z, S1 = S1' ++ [z] ∧ key z ≤ key e) → Srt key (S1 ++ e :: S2)) := by
          intro hc
          obtain ⟨h1, h2, h3⟩ := HS12.out
          have hss := HS.out
          rw [h1] at hss
          obtain ⟨q1, q2, q3⟩ := List.pairwise_append.1 hss
          have hall : ∀ x ∈ S1, prec key x e := by
            rcases hc with hc | ⟨S1', z, hz, hn⟩
            · obtain rfl : S1 = [] := List.eq_nil_of_length_eq_zero (by omega)
              simp
            · have hze : prec key z e := prec_cross' (HSe.out z (by rw [h1, hz]; simp)) (Int.not_lt.2 hn)
              intro x hx
              rw [hz] at hx q1
              rcases List.mem_append.1 hx with hx | hx
              · exact prec_trans ((List.pairwise_append.1 q1).2.2 x hx z (by simp)) hze
              · simp at hx; subst hx; exact hze
          refine srt_append q1 (List.pairwise_cons.2 ⟨h3, q2⟩) ?_
          intro x hx y hy
          rcases List.mem_cons.1 hy with rfl | hy
          · exact hall x hx
          · exact q3 x hx y hy
        have OUT2 : Hid (∀ wr3, RowAt blk (X ++ S1 ++ e :: S2 ++ R' ++ Y) w0 wr3 → Srt key (S1 ++ e :: S2) → ∃ (i' : Nat) (S' R'' : List Nat), Value.int .i64 ((i : Int) + 1) = .int .i64 i' ∧ a < i' ∧ i' ≤ b + 1 ∧ ((i' ≤ b ∧ a + S'.length = i' ∧ i' + R''.length = b) ∨ (i' = b + 1 ∧ R'' = [] ∧ S' = [])) ∧ Srt key S' ∧ (S' ++ R'').Perm A ∧ (∃ T, A = T ++ R'' ∧ S'.Perm T) ∧ RowAt blk (X ++ S' ++ R'' ++ Y) w0 wr3) := by
          intro wr3 h4 h5
          obtain ⟨h1, h2, h3⟩ := HS12.out
          obtain ⟨g1, g2⟩ := HL.out
          rw [h1, List.length_append] at g1
          have hpm : (S1 ++ e :: S2).Perm (S ++ [e]) := by
            rw [h1]
            exact List.perm_middle.trans (List.perm_append_singleton e (S1 ++ S2)).symm
          refine ⟨i + 1, S1 ++ e :: S2, R', by go_num, by omega, by omega, .inl ⟨by omega, by simp; omega, by omega⟩, h5, ?_, ⟨T ++ [e], by rw [HAT.out.1]; simp, hpm.trans (HAT.out.2.append_right _)⟩, by simpa using h4⟩
          refine (hpm.append_right R').trans ?_
          simpa using HP.out
        by_cases hja : a < j
        · obtain ⟨S1', z, rfl⟩ : ∃ S1' z, S1 = S1' ++ [z] := by
            rcases List.eq_nil_or_concat S1 with h0 | ⟨S1', z, h0⟩
            · have := HS12.out.2.1; rw [h0] at this; simp at this; omega
            · exact ⟨S1', z, by simpa using h0⟩
          have hi1 : j - 1 = (X ++ S1').length := by have h1 := HX.out.1; have h2 := HS12.out.2.1; simp at h2 ⊢; omega
          have hj1 : j = (X ++ S1').length + 1 + ([] : List Nat).length := by simp only [List.length_nil]; omega
          have e1 : X ++ (S1' ++ [z]) ++ e :: S2 ++ R' ++ Y = (X ++ S1') ++ z :: ([] ++ e :: (S2 ++ R' ++ Y)) := by simp
          have hzM : z < M := HM1.out z (by rw [HS12.out.1]; simp)
          obtain ⟨jp, hjp⟩ : ∃ q, q = j - 1 := ⟨_, rfl⟩
          have hr3 := hr2
          rw [e1] at hr3
          have c1 := hr3.c (i := jp) (x := z) (by rw [hjp, hi1]; exact get_one _ _ _ _ _)
          have c2 := hr3.c (i := j) (x := e) (by rw [hj1]; exact get_two _ _ _ _ _)
          have f1 := hr3.f (i := jp) (x := z) (by rw [hjp, hi1]; exact get_one _ _ _ _ _)
          have f2 := hr3.f (i := j) (x := e) (by rw [hj1]; exact get_two _ _ _ _ _)
          have HR3 := Lib.hid hr3
          have HQ : Hid (j - 1 = (X ++ S1').length ∧ j = (X ++ S1').length + 1 + ([] : List Nat).length) := ⟨hi1, hj1⟩
          have hC := fun n => HC.out.lt hr2.kept heM hzM n
          have HR2 := Lib.hid hr2
          clear hr2 hr3 e1 hi1 hj1
          obtain rfl : j = jp + 1 := by omega
          clear hjp
          have hjad : decide ((jp : Int) + 1 > (a : Int)) = true := decide_eq_true (by omega)
          by_cases hk : key e < key z
          · have hd := cmpI_neg hk
            obtain ⟨cv, hcv⟩ : ∃ cv, cmpI (key e) (key z) = cv := ⟨_, rfl⟩
            rw [hcv] at hd
            simp only [hcv] at hC
            have hcv0 : cv < 0 := of_decide_eq_true hd
            clear hcv
            have HK := Lib.hid hk
            clear hk
            go_wp2_with fail
            go_quiet ((go_at_call 50; exact hC _))
            have HR4 := Lib.hid (HR3.out.drewN nq)
            have k1 : (wr.drewN nq).cell? ⟨blk, jp, none⟩ = some (.int .i64 (z : Int)) := c1
            have k2 : (wr.drewN nq).cell? ⟨blk, jp + 1, none⟩ = some (.int .i64 (e : Int)) := c2
            have g1 : (wr.drewN nq).frozen? ⟨blk, jp, none⟩ = false := f1
            have g2 : (wr.drewN nq).frozen? ⟨blk, jp + 1, none⟩ = false := f2
            clear hC HR3 HR2 c1 c2 f1 f2
            generalize wr.drewN nq = w2 at HR4 k1 k2 g1 g2 ⊢
            have c3 : (w2.setCell ⟨blk, jp + 1, none⟩ (.int .i64 (z : Int))).cell? ⟨blk, jp, none⟩ = some (.int .i64 (z : Int)) := by
              rw [World.cell?_setCell_other _ _ _ _ (by intro e'; simp only [Addr.mk.injEq] at e'; omega)]; exact k1
            have HS4 : Hid (RowAt blk ((X ++ S1') ++ e :: ([] ++ z :: (S2 ++ R' ++ Y))) w0 ((w2.setCell ⟨blk, jp + 1, none⟩ (.int .i64 (z : Int))).setCell ⟨blk, jp, none⟩ (.int .i64 (e : Int))).drew) := HR4.out.swap' (by have := HQ.out.1; omega) HQ.out.2
            clear HR4
            go_wp2_with fail
            go_big_region
            clear k1 k2 c3 g1 g2
            generalize ((w2.setCell ⟨blk, jp + 1, none⟩ (.int .i64 (z : Int))).setCell ⟨blk, jp, none⟩ (.int .i64 (e : Int))).drew = w3 at HS4 ⊢
            go_wp2
            go_roundw
            case rel =>
              obtain ⟨h1, h2, h3⟩ := HS12.out
              refine ⟨jp, S1', z :: S2, by go_num, by omega, by omega, by rw [h1]; simp, by simp at h2; omega, ?_, by simpa using HS4.out⟩
              intro y hy
              have hez : prec key e z := (prec_cross (HSe.out z (by rw [h1]; simp))).1 HK.out
              rcases List.mem_cons.1 hy with rfl | hy
              · exact hez
              · exact h3 y hy
            case measure => simp [intOf]
          · have hd := cmpI_not hk
            obtain ⟨cv, hcv⟩ : ∃ cv, cmpI (key e) (key z) = cv := ⟨_, rfl⟩
            rw [hcv] at hd
            simp only [hcv] at hC
            have hcv0 : ¬ cv < 0 := of_decide_eq_false hd
            clear hcv
            have HK : Hid (key z ≤ key e) := Int.not_lt.1 hk
            clear hk
            go_wp2_with fail
            go_quiet ((go_at_call 50; exact hC _))
            have HR4 := Lib.hid (HR2.out.drewN nq)
            clear hC HR3 HR2 c1 c2 f1 f2
            generalize wr.drewN nq = w2 at HR4 ⊢
            go_wp2
            go_roundw
            case rel => exact OUT2.out _ HR4.out (OUT.out (.inr ⟨S1', z, rfl, HK.out⟩))
            case measure => simp [intOf]; omega
        · have hjaz : decide ((j : Int) > (a : Int)) = false := decide_eq_false (by omega)
          have hjaz' : ¬ (a : Int) < (j : Int) := by omega
          have HR4 : Hid (RowAt blk (X ++ S1 ++ e :: S2 ++ R' ++ Y) w0 wr.drew) := hr2.drewN 1
          clear hr2
          go_wp2_with fail
          go_big_region
          generalize wr.drew = w2 at HR4 ⊢
          go_wp2
          go_roundw
          case rel => exact OUT2.out _ HR4.out (OUT.out (.inl (by omega)))
          case measure => simp [intOf]; omega
    · have HF : Hid (∃ C, C.Perm A ∧ Srt key C ∧ RowAt blk (X ++ C ++ Y) w0 wr) := by
        rcases hshape with ⟨h1, h2, h3⟩ | ⟨h1, h2, h3⟩
        · obtain rfl : R = [] := List.eq_nil_of_length_eq_zero (by omega)
          exact ⟨S, by simpa using hp, hS, by simpa using hr⟩
        · subst h2; subst h3
          exact ⟨[], hp, hS, by simpa using hr⟩
      clear hshape hS hp hT hr
      go_wp2
      go_end0
      exact ⟨rfl, HF.out⟩
end Go.Proofs.YtfaieldafoeaiaaGreatDoor

/-
  slices.SortStableFunc at the program's comparison: the symmetric merge, where one row has one place.
-/
namespace Go.Proofs.YtfaieldafoeaiaaGreatDoor
open Go.RowKit

def SymPost (key : Nat → Int) (blk : Nat) (X A B Y : List Nat) (w0 : World) (e : Ending) (w' : World) : Prop :=
  e = .returned (.tuple #[]) ∧ ∃ C, C.Perm (A ++ B) ∧ Srt key C ∧ RowAt blk (X ++ C ++ Y) w0 w'
theorem get_at (X A Y : List Nat) {k i : Nat} (h : k < A.length) (hi : i = X.length + k) : (X ++ A ++ Y)[i]? = some A[k] := by
  subst hi
  rw [List.append_assoc, List.getElem?_append_right (by omega), show X.length + k - X.length = k by omega, List.getElem?_append_left h, List.getElem?_eq_getElem h]

set_option maxHeartbeats 1000000 in
set_option maxRecDepth 100000 in
theorem sym_ahead (key : Nat → Int) (bl blk cap N M : Nat) (X B Y : List Nat) (x a m b : Nat) (w0 w : World) (HC : Hid (CmpOk key M blk bl w0)) (hxM : x < M) (hM : ∀ y ∈ B, y < M) (ha : a = X.length) (hm : m = a + 1) (hb : b = m + B.length) (hN : N = b + Y.length) (hl : N ≤ 1000)
    (hB : Srt key B) (hX : ∀ y ∈ B, x < y) (h : RowAt blk (X ++ [x] ++ B ++ Y) w0 w) :
    Calls Tryz.prog 99 #[.slice (some ⟨blk, 0, none⟩) N cap, .int .i64 a, .int .i64 m, .int .i64 b, .func (.func 50) #[] #[.pointer (some ⟨bl, 0, none⟩)]] w (SymPost key blk X [x] B Y w0) := by
  have HH := Lib.hid h
  clear h
  have hab : a < m := by omega
  have hmb : m ≤ b := by omega
  have hbN : b ≤ N := by omega
  have h1 : (((m : Int) - (a : Int)) == 1) = true := by rw [beq_iff_eq]; omega
  have HX : Hid (a = X.length ∧ m = a + 1 ∧ b = m + B.length ∧ N = b + Y.length) := ⟨ha, hm, hb, hN⟩
  have HB := Lib.hid (And.intro hM (And.intro hB hX))
  clear ha hm hb hN hB hX hM
  go_enter Tryz.func99, Tryz.ntmps99
  go_wp2
  go_loopw [10, 11] (fun s t wr => ∃ i j : Nat, s = .int .i64 i ∧ t = .int .i64 j ∧ m ≤ i ∧ i ≤ j ∧ j ≤ b ∧ (i = m ∨ ∃ q : i - m - 1 < B.length, key B[i - m - 1] < key x) ∧ (j = b ∨ ∃ q : j - m < B.length, key x ≤ key B[j - m]) ∧ RowAt blk (X ++ [x] ++ B ++ Y) w0 wr) (fun s t _ => (intOf t).toNat - (intOf s).toNat)
  case atStart => exact ⟨m, b, rfl, rfl, Nat.le_refl _, hmb, Nat.le_refl _, .inl rfl, .inl rfl, HH.out⟩
  case round =>
    obtain ⟨i, j, rfl, rfl, hmi, hij, hjb, hi1, hj1, hr⟩ := hrel
    clear HH
    have HH := Lib.hid hr
    clear hr
    have HI : Hid ((i = m ∨ ∃ q : i - m - 1 < B.length, key B[i - m - 1] < key x) ∧ (j = b ∨ ∃ q : j - m < B.length, key x ≤ key B[j - m])) := ⟨hi1, hj1⟩
    clear hi1 hj1
    by_cases hlt : i < j
    · obtain ⟨q, hq⟩ : ∃ q, (i + j) / 2 = q := ⟨_, rfl⟩
      have hqi : i ≤ q := by omega
      have hqj : q < j := by omega
      have hqe : ((i : Int) + (j : Int)) / 2 = (q : Int) := by omega
      have hqB : q - m < B.length := by have := HX.out; omega
      clear hq
      obtain ⟨y, hy⟩ : ∃ y, B[q - m] = y := ⟨_, rfl⟩
      have cy := HH.out.c (i := q) (x := y) (by
        obtain ⟨g1, g2, g3, g4⟩ := HX.out
        have := get_at (X ++ [x]) B Y hqB (i := q) (by simp; omega)
        rw [hy] at this
        exact this)
      have cx := HH.out.c (i := a) (x := x) (by rw [HX.out.1]; simp)
      have hqN : q < N := by omega
      have hyM : y < M := by rw [← hy]; exact HB.out.1 _ (List.getElem_mem hqB)
      have hC := fun k => HC.out.lt HH.out.kept hyM hxM k
      have HY := Lib.hid hy
      clear hy
      by_cases hk : key y < key x
      · have hd := cmpI_neg hk
        obtain ⟨cv, hcv⟩ : ∃ cv, cmpI (key y) (key x) = cv := ⟨_, rfl⟩
        rw [hcv] at hd
        simp only [hcv] at hC
        have hcv0 : cv < 0 := of_decide_eq_true hd
        have HK := Lib.hid hk
        clear hcv hk
        go_wp2_with fail
        clear hqe
        go_quiet ((go_at_call 50; exact hC _))
        go_wp2
        go_roundw
        case rel =>
          refine ⟨q + 1, j, by go_num, rfl, by omega, by omega, by omega, .inr ⟨by omega, ?_⟩, HI.out.2, HH.out.drewN _⟩
          have : q + 1 - m - 1 = q - m := by omega
          simp only [this, HY.out]
          exact HK.out
        case measure => simp [intOf]; omega
      · have hd := cmpI_not hk
        obtain ⟨cv, hcv⟩ : ∃ cv, cmpI (key y) (key x) = cv := ⟨_, rfl⟩
        rw [hcv] at hd
        simp only [hcv] at hC
        have hcv0 : ¬ cv < 0 := of_decide_eq_false hd
        have HK : Hid (key x ≤ key y) := Int.not_lt.1 hk
        clear hcv hk
        go_wp2_with fail
        clear hqe
        go_quiet ((go_at_call 50; exact hC _))
        go_wp2
        go_roundw
        case rel =>
          refine ⟨i, q, rfl, by go_num, by omega, by omega, by omega, HI.out.1, .inr ⟨hqB, ?_⟩, HH.out.drewN _⟩
          simp only [HY.out]
          exact HK.out
        case measure => simp [intOf]; omega
    · obtain rfl : i = j := by omega
      have HS : Hid (Srt key (B.take (i - m) ++ x :: B.drop (i - m)) ∧ (B.take (i - m) ++ x :: B.drop (i - m)).Perm (x :: B)) := by
        obtain ⟨g1, g2, g3, g4⟩ := HX.out
        refine one_ahead HB.out.2.1 HB.out.2.2 ?_ ?_
        · rcases HI.out.1 with h | h
          · exact .inl (by omega)
          · exact .inr h
        · rcases HI.out.2 with h | h
          · exact .inl (by omega)
          · exact .inr (h.imp fun _ => Int.not_lt.2)
      obtain ⟨B1, hB1⟩ : ∃ B1, B.take (i - m) = B1 := ⟨_, rfl⟩
      obtain ⟨B2, hB2⟩ : ∃ B2, B.drop (i - m) = B2 := ⟨_, rfl⟩
      rw [hB1, hB2] at HS
      have HL : Hid (B1.length = i - m ∧ RowAt blk (X ++ [x] ++ (B1 ++ B2) ++ Y) w0 wr) := by
        obtain ⟨g1, g2, g3, g4⟩ := HX.out
        refine ⟨by rw [← hB1]; simp; omega, ?_⟩
        rw [← hB1, ← hB2, List.take_append_drop]
        exact HH.out
      clear hB1 hB2 HI HH
      go_wp2
      go_loopw [13] (fun s wr => ∃ (k : Nat), s = .int .i64 k ∧ a ≤ k ∧ k ≤ i - 1 ∧ RowAt blk (X ++ B1.take (k - a) ++ x :: (B1.drop (k - a) ++ B2 ++ Y)) w0 wr) (fun s _ => i - (intOf s).toNat)
      case atStart => exact ⟨a, rfl, Nat.le_refl _, by omega, by simpa using HL.out.2⟩
      case round =>
        obtain ⟨k, rfl, hak, hki, hr⟩ := hrel
        by_cases hlt2 : k < i - 1
        · have hkB : k - a < B1.length := by have := HL.out.1; have := HX.out; omega
          obtain ⟨y, hy⟩ : ∃ y, B1[k - a] = y := ⟨_, rfl⟩
          have e1 : X ++ B1.take (k - a) ++ x :: (B1.drop (k - a) ++ B2 ++ Y) = (X ++ B1.take (k - a)) ++ x :: ([] ++ y :: (B1.drop (k - a + 1) ++ B2 ++ Y)) := by
            rw [mid_cons hkB, hy]; simp
          have e2 : X ++ B1.take (k + 1 - a) ++ x :: (B1.drop (k + 1 - a) ++ B2 ++ Y) = (X ++ B1.take (k - a)) ++ y :: ([] ++ x :: (B1.drop (k - a + 1) ++ B2 ++ Y)) := by
            rw [show k + 1 - a = k - a + 1 by omega, take_app hkB, hy]; simp
          have hi1 : k = (X ++ B1.take (k - a)).length := by have := HX.out; simp; omega
          have hj1 : k + 1 = (X ++ B1.take (k - a)).length + 1 + ([] : List Nat).length := by simp only [List.length_nil]; omega
          rw [e1] at hr
          have c1 := hr.c (i := k) (x := x) (by conv => lhs; arg 2; rw [hi1]
                                                exact get_one _ _ _ _ _)
          have c2 := hr.c (i := k + 1) (x := y) (by rw [hj1]; exact get_two _ _ _ _ _)
          have f1 := hr.f (i := k) (x := x) (by conv => lhs; arg 2; rw [hi1]
                                                exact get_one _ _ _ _ _)
          have f2 := hr.f (i := k + 1) (x := y) (by rw [hj1]; exact get_two _ _ _ _ _)
          have HS4 : Hid (RowAt blk (X ++ B1.take (k + 1 - a) ++ x :: (B1.drop (k + 1 - a) ++ B2 ++ Y)) w0 ((wr.setCell ⟨blk, k, none⟩ (.int .i64 (y : Int))).setCell ⟨blk, k + 1, none⟩ (.int .i64 (x : Int))).drew) := by
            have := hr.swap hi1 hj1
            rw [← e2] at this
            exact this
          have c3 : (wr.setCell ⟨blk, k, none⟩ (.int .i64 (y : Int))).cell? ⟨blk, k + 1, none⟩ = some (.int .i64 (y : Int)) := by
            rw [World.cell?_setCell_other _ _ _ _ (by intro e'; simp only [Addr.mk.injEq] at e'; omega)]; exact c2
          clear hr e1 e2 hi1 hj1 hy hkB
          have hkz : (k : Int) < (i : Int) - 1 := by omega
          go_wp2_with fail
          go_big_region
          clear c1 c2 c3 f1 f2
          generalize ((wr.setCell ⟨blk, k, none⟩ (.int .i64 (y : Int))).setCell ⟨blk, k + 1, none⟩ (.int .i64 (x : Int))).drew = w3 at HS4 ⊢
          go_wp2
          go_roundw
          case rel => exact ⟨k + 1, by go_num, by omega, by omega, HS4.out⟩
          case measure => simp [intOf]; omega
        · have HF : Hid (RowAt blk (X ++ (B1 ++ x :: B2) ++ Y) w0 wr) := by
            obtain ⟨g1, g2, g3, g4⟩ := HX.out
            have := HL.out.1
            rw [List.take_of_length_le (by omega), List.drop_eq_nil_of_le (by omega)] at hr
            show RowAt blk (X ++ (B1 ++ x :: B2) ++ Y) w0 wr
            simpa using hr
          clear hr
          have hkz : ¬ (k : Int) < (i : Int) - 1 := by omega
          go_wp2
          refine bodyPost_ret (results_none rfl _ _ _) rfl ?_
          exact ⟨rfl, _, HS.out.2, HS.out.1, HF.out⟩

set_option maxHeartbeats 1000000 in
set_option maxRecDepth 100000 in
theorem sym_behind (key : Nat → Int) (bl blk cap N M : Nat) (X A Y : List Nat) (y a m b : Nat) (w0 w : World) (HC : Hid (CmpOk key M blk bl w0)) (hyM : y < M) (hM : ∀ x ∈ A, x < M) (ha : a = X.length) (hm : m = a + A.length) (hb : b = m + 1) (hN : N = b + Y.length) (hl : N ≤ 1000)
    (hA2 : 2 ≤ A.length) (hA : Srt key A) (hX : ∀ x ∈ A, x < y) (h : RowAt blk (X ++ A ++ [y] ++ Y) w0 w) :
    Calls Tryz.prog 99 #[.slice (some ⟨blk, 0, none⟩) N cap, .int .i64 a, .int .i64 m, .int .i64 b, .func (.func 50) #[] #[.pointer (some ⟨bl, 0, none⟩)]] w (SymPost key blk X A [y] Y w0) := by
  have HH := Lib.hid h
  clear h
  have hab : a + 2 ≤ m := by omega
  have hmb : m < b := by omega
  have hbN : b ≤ N := by omega
  have h1 : (((m : Int) - (a : Int)) == 1) = false := by rw [beq_eq_false_iff_ne]; omega
  have h2 : (((b : Int) - (m : Int)) == 1) = true := by rw [beq_iff_eq]; omega
  have HX : Hid (a = X.length ∧ m = a + A.length ∧ b = m + 1 ∧ N = b + Y.length) := ⟨ha, hm, hb, hN⟩
  have HA := Lib.hid (And.intro hM (And.intro hA hX))
  clear ha hm hb hN hA hX hM hA2
  go_enter Tryz.func99, Tryz.ntmps99
  go_wp2
  go_loopw [14, 15] (fun s t wr => ∃ i j : Nat, s = .int .i64 i ∧ t = .int .i64 j ∧ a ≤ i ∧ i ≤ j ∧ j ≤ m ∧ (i = a ∨ ∃ q : i - a - 1 < A.length, key A[i - a - 1] ≤ key y) ∧ (j = m ∨ ∃ q : j - a < A.length, key y < key A[j - a]) ∧ RowAt blk (X ++ A ++ [y] ++ Y) w0 wr) (fun s t _ => (intOf t).toNat - (intOf s).toNat)
  case atStart => exact ⟨a, m, rfl, rfl, Nat.le_refl _, by omega, Nat.le_refl _, .inl rfl, .inl rfl, HH.out⟩
  case round =>
    obtain ⟨i, j, rfl, rfl, hmi, hij, hjb, hi1, hj1, hr⟩ := hrel
    clear HH
    have HH := Lib.hid hr
    clear hr
    have HI : Hid ((i = a ∨ ∃ q : i - a - 1 < A.length, key A[i - a - 1] ≤ key y) ∧ (j = m ∨ ∃ q : j - a < A.length, key y < key A[j - a])) := ⟨hi1, hj1⟩
    clear hi1 hj1
    by_cases hlt : i < j
    · obtain ⟨q, hq⟩ : ∃ q, (i + j) / 2 = q := ⟨_, rfl⟩
      have hqi : i ≤ q := by omega
      have hqj : q < j := by omega
      have hqe : ((i : Int) + (j : Int)) / 2 = (q : Int) := by omega
      have hqA : q - a < A.length := by have := HX.out; omega
      clear hq
      obtain ⟨x, hx⟩ : ∃ x, A[q - a] = x := ⟨_, rfl⟩
      have cx := HH.out.c (i := q) (x := x) (by
        obtain ⟨g1, g2, g3, g4⟩ := HX.out
        have := get_at X A ([y] ++ Y) hqA (i := q) (by omega)
        rw [hx] at this
        simpa using this)
      have cy := HH.out.c (i := m) (x := y) (by rw [HX.out.2.1, HX.out.1]; simp)
      have hqN : q < N := by omega
      have hxM : x < M := by rw [← hx]; exact HA.out.1 _ (List.getElem_mem hqA)
      have hC := fun k => HC.out.lt HH.out.kept hyM hxM k
      have HY := Lib.hid hx
      clear hx
      by_cases hk : key y < key x
      · have hd := cmpI_neg hk
        obtain ⟨cv, hcv⟩ : ∃ cv, cmpI (key y) (key x) = cv := ⟨_, rfl⟩
        rw [hcv] at hd
        simp only [hcv] at hC
        have hcv0 : cv < 0 := of_decide_eq_true hd
        have HK := Lib.hid hk
        clear hcv hk
        go_wp2_with fail
        clear hqe
        go_quiet ((go_at_call 50; exact hC _))
        go_wp2
        go_roundw
        case rel =>
          refine ⟨i, q, rfl, by go_num, by omega, by omega, by omega, HI.out.1, .inr ⟨hqA, ?_⟩, HH.out.drewN _⟩
          simp only [HY.out]
          exact HK.out
        case measure => simp [intOf]; omega
      · have hd := cmpI_not hk
        obtain ⟨cv, hcv⟩ : ∃ cv, cmpI (key y) (key x) = cv := ⟨_, rfl⟩
        rw [hcv] at hd
        simp only [hcv] at hC
        have hcv0 : ¬ cv < 0 := of_decide_eq_false hd
        have HK : Hid (key x ≤ key y) := Int.not_lt.1 hk
        clear hcv hk
        go_wp2_with fail
        clear hqe
        go_quiet ((go_at_call 50; exact hC _))
        go_wp2
        go_roundw
        case rel =>
          refine ⟨q + 1, j, by go_num, rfl, by omega, by omega, by omega, .inr ⟨by omega, ?_⟩, HI.out.2, HH.out.drewN _⟩
          have : q + 1 - a - 1 = q - a := by omega
          simp only [this, HY.out]
          exact HK.out
        case measure => simp [intOf]; omega
    · obtain rfl : i = j := by omega
      have HS : Hid (Srt key (A.take (i - a) ++ y :: A.drop (i - a)) ∧ (A.take (i - a) ++ y :: A.drop (i - a)).Perm (A ++ [y])) := by
        obtain ⟨g1, g2, g3, g4⟩ := HX.out
        refine one_behind HA.out.2.1 HA.out.2.2 ?_ ?_
        · rcases HI.out.1 with h | h
          · exact .inl (by omega)
          · exact .inr (h.imp fun _ => Int.not_lt.2)
        · rcases HI.out.2 with h | h
          · exact .inl (by omega)
          · exact .inr h
      obtain ⟨A1, hA1⟩ : ∃ A1, A.take (i - a) = A1 := ⟨_, rfl⟩
      obtain ⟨A2, hA2⟩ : ∃ A2, A.drop (i - a) = A2 := ⟨_, rfl⟩
      rw [hA1, hA2] at HS
      have HL : Hid (A1.length = i - a ∧ A2.length = m - i ∧ RowAt blk (X ++ (A1 ++ A2) ++ [y] ++ Y) w0 wr) := by
        obtain ⟨g1, g2, g3, g4⟩ := HX.out
        refine ⟨by rw [← hA1]; simp; omega, by rw [← hA2]; simp; omega, ?_⟩
        rw [← hA1, ← hA2, List.take_append_drop]
        exact HH.out
      clear hA1 hA2 HI HH
      go_wp2
      go_loopw [17] (fun s wr => ∃ (k : Nat), s = .int .i64 k ∧ i ≤ k ∧ k ≤ m ∧ RowAt blk (X ++ A1 ++ A2.take (k - i) ++ y :: (A2.drop (k - i) ++ Y)) w0 wr) (fun s _ => (intOf s).toNat)
      case atStart =>
        refine ⟨m, rfl, by omega, Nat.le_refl _, ?_⟩
        have h3 := HL.out.2.1
        rw [List.take_of_length_le (by omega), List.drop_eq_nil_of_le (by omega)]
        simpa using HL.out.2.2
      case round =>
        obtain ⟨k, rfl, hak, hki, hr⟩ := hrel
        by_cases hlt2 : i < k
        · obtain ⟨kp, hkp⟩ : ∃ q, q = k - 1 := ⟨_, rfl⟩
          obtain rfl : k = kp + 1 := by omega
          clear hkp
          have hkA : kp - i < A2.length := by have := HL.out.2.1; omega
          obtain ⟨x, hx⟩ : ∃ x, A2[kp - i] = x := ⟨_, rfl⟩
          have e1 : X ++ A1 ++ A2.take (kp + 1 - i) ++ y :: (A2.drop (kp + 1 - i) ++ Y) = (X ++ A1 ++ A2.take (kp - i)) ++ x :: ([] ++ y :: (A2.drop (kp - i + 1) ++ Y)) := by
            rw [show kp + 1 - i = kp - i + 1 by omega, take_app hkA, hx]; simp
          have e2 : X ++ A1 ++ A2.take (kp - i) ++ y :: (A2.drop (kp - i) ++ Y) = (X ++ A1 ++ A2.take (kp - i)) ++ y :: ([] ++ x :: (A2.drop (kp - i + 1) ++ Y)) := by
            rw [mid_cons hkA, hx]; simp
          have hi1 : kp = (X ++ A1 ++ A2.take (kp - i)).length := by have := HX.out; have := HL.out; simp; omega
          have hj1 : kp + 1 = (X ++ A1 ++ A2.take (kp - i)).length + 1 + ([] : List Nat).length := by simp only [List.length_nil]; omega
          rw [e1] at hr
          have c1 := hr.c (i := kp) (x := x) (by conv => lhs; arg 2; rw [hi1]
                                                 exact get_one _ _ _ _ _)
          have c2 := hr.c (i := kp + 1) (x := y) (by rw [hj1]; exact get_two _ _ _ _ _)
          have f1 := hr.f (i := kp) (x := x) (by conv => lhs; arg 2; rw [hi1]
                                                 exact get_one _ _ _ _ _)
          have f2 := hr.f (i := kp + 1) (x := y) (by rw [hj1]; exact get_two _ _ _ _ _)
          have HS4 : Hid (RowAt blk (X ++ A1 ++ A2.take (kp - i) ++ y :: (A2.drop (kp - i) ++ Y)) w0 ((wr.setCell ⟨blk, kp + 1, none⟩ (.int .i64 (x : Int))).setCell ⟨blk, kp, none⟩ (.int .i64 (y : Int))).drew) := by
            have := hr.swap' hi1 hj1
            rw [← e2] at this
            exact this
          have c3 : (wr.setCell ⟨blk, kp + 1, none⟩ (.int .i64 (x : Int))).cell? ⟨blk, kp, none⟩ = some (.int .i64 (x : Int)) := by
            rw [World.cell?_setCell_other _ _ _ _ (by intro e'; simp only [Addr.mk.injEq] at e'; omega)]; exact c1
          clear hr e1 e2 hi1 hj1 hx hkA
          have hkz : (i : Int) < (kp : Int) + 1 := by omega
          go_wp2_with fail
          go_big_region
          clear c1 c2 c3 f1 f2
          generalize ((wr.setCell ⟨blk, kp + 1, none⟩ (.int .i64 (x : Int))).setCell ⟨blk, kp, none⟩ (.int .i64 (y : Int))).drew = w3 at HS4 ⊢
          go_wp2
          go_roundw
          case rel => exact ⟨kp, by go_num, by omega, by omega, HS4.out⟩
          case measure => simp [intOf]
        · have HF : Hid (RowAt blk (X ++ (A1 ++ y :: A2) ++ Y) w0 wr) := by
            obtain rfl : k = i := by omega
            rw [Nat.sub_self] at hr
            show RowAt blk (X ++ (A1 ++ y :: A2) ++ Y) w0 wr
            simpa using hr
          clear hr
          go_wp2
          refine bodyPost_ret (results_none rfl _ _ _) rfl ?_
          exact ⟨rfl, _, HS.out.2, HS.out.1, HF.out⟩
end Go.Proofs.YtfaieldafoeaiaaGreatDoor

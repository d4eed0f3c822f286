/-
  How the program's Encode reckons deltas: by places that are marked, in the order of their code points.
-/
import Derived.Test.YtmnpefpglpabmaaDoorNMath4
import Derived.Test.YtmnpefpglpabmaaDoorQTally
import Derived.Test.YtmnpefpglpabmaaDoorQSortM
namespace Go.Proofs.YtmnpefpglpabmaaDoor

/-- The code points at the marked places. -/
def pick (M : Nat → Bool) (l : List Nat) : Nat → List Nat
  | 0 => []
  | n + 1 => pick M l n ++ if M n then [l.getD n 0] else []
theorem pick_length (M : Nat → Bool) (l : List Nat) (n : Nat) : (pick M l n).length = cnt M n := by
  induction n with
  | zero => rfl
  | succ n ih =>
    show (pick M l n ++ _).length = cnt M n + _
    rw [List.length_append, ih]
    split <;> rfl
theorem pick_before (M : Nat → Bool) (l : List Nat) (p : Nat) : ∀ n, n ≤ p → pick (mark M p) l n = pick M l n := by
  intro n
  induction n with
  | zero => intro _; rfl
  | succ n ih =>
    intro h
    show pick (mark M p) l n ++ (if (M n || n == p) = true then [l.getD n 0] else []) = pick M l n ++ _
    rw [ih (by omega), beq_eq_false_iff_ne.2 (show n ≠ p by omega), Bool.or_false]
theorem pick_mark (M : Nat → Bool) (l : List Nat) (p : Nat) (hp : M p = false) : ∀ n, p < n → pick (mark M p) l n = ins (pick M l n) (cnt M p) (l.getD p 0) := by
  intro n
  induction n with
  | zero => intro h; omega
  | succ n ih =>
    intro h
    show pick (mark M p) l n ++ (if (M n || n == p) = true then [l.getD n 0] else []) = ins (pick M l n ++ if M n = true then [l.getD n 0] else []) _ _
    by_cases e : n = p
    · subst e
      rw [pick_before M l n n (Nat.le_refl _), hp]
      unfold ins
      have hl := pick_length M l n
      simp [← hl]
    · rw [ih (by omega), beq_eq_false_iff_ne.2 e, Bool.or_false]
      have hl : cnt M p ≤ (pick M l n).length := by rw [pick_length]; exact cnt_mono M (by omega)
      unfold ins
      rw [List.take_append_of_le_length hl, List.drop_append_of_le_length hl]
      simp
theorem pick_all (M : Nat → Bool) (l : List Nat) : ∀ n, n ≤ l.length → (∀ i, i < n → M i = true) → pick M l n = l.take n := by
  intro n
  induction n with
  | zero => intro _ _; simp [pick]
  | succ n ih =>
    intro h ha
    show pick M l n ++ _ = _
    rw [ih (by omega) (fun i hi => ha i (by omega)), if_pos (ha n (by omega)), List.take_succ_eq_append_getElem (by omega), List.getD_eq_getElem?_getD, List.getElem?_eq_getElem (by omega)]
    rfl
/-- Those below 128 among the first k. -/
def bas (l : List Nat) (k : Nat) : Nat → Bool := fun i => decide (i < k) && decide (l.getD i 0 < 128)
theorem getD_at {l : List Nat} {k : Nat} (h : k < l.length) : l.getD k 0 = l[k] := by rw [List.getD_eq_getElem?_getD, List.getElem?_eq_getElem h]; rfl
theorem bas_small {l : List Nat} {k : Nat} (h : k < l.length) (hs : l[k] < 128) : mark (bas l k) k = bas l (k + 1) := by
  funext i
  unfold mark bas
  by_cases e : i = k
  · subst e; rw [getD_at h]; simp [hs]
  · have : (i < k + 1) ↔ i < k := by omega
    simp [e, this]
theorem bas_great {l : List Nat} {k : Nat} (h : k < l.length) (hs : ¬ l[k] < 128) : bas l k = bas l (k + 1) := by
  funext i
  unfold bas
  by_cases e : i = k
  · subst e; rw [getD_at h]; simp [hs]
  · have : (i < k + 1) ↔ i < k := by omega
    simp [this]
theorem bas_here (l : List Nat) (k : Nat) : bas l k k = false := by simp [bas]
theorem bas_none (l : List Nat) : bas l 0 = fun _ => false := by funext i; simp [bas]
theorem pick_bas (l : List Nat) (k : Nat) : ∀ n, n ≤ l.length → n ≤ k → pick (bas l k) l n = basicOf (l.take n) := by
  intro n
  induction n with
  | zero => intro _ _; rfl
  | succ n ih =>
    intro h hk
    show pick (bas l k) l n ++ _ = _
    rw [ih (by omega) (by omega), List.take_succ_eq_append_getElem (by omega), basicOf, basicOf, List.filter_append]
    congr 1
    unfold bas
    rw [getD_at (by omega)]
    by_cases hs : l[n] < 128
    · simp [hs, show n < k by omega]
    · simp [hs]
/-- The places of the others. -/
def oth (l : List Nat) (k : Nat) : List Nat := (List.range k).filter fun i => decide (128 ≤ l.getD i 0)
theorem oth_small {l : List Nat} {k : Nat} (h : k < l.length) (hs : l[k] < 128) : oth l (k + 1) = oth l k := by
  unfold oth
  rw [List.range_succ, List.filter_append]
  have : decide (128 ≤ l.getD k 0) = false := by rw [getD_at h]; exact decide_eq_false (by omega)
  rw [List.filter_cons, this]
  simp
theorem oth_great {l : List Nat} {k : Nat} (h : k < l.length) (hs : ¬ l[k] < 128) : oth l (k + 1) = oth l k ++ [k] := by
  unfold oth
  rw [List.range_succ, List.filter_append]
  have : decide (128 ≤ l.getD k 0) = true := by rw [getD_at h]; exact decide_eq_true (by omega)
  rw [List.filter_cons, this]
  simp
theorem oth_sorted (l : List Nat) (k : Nat) : (oth l k).Pairwise (· < ·) := List.Pairwise.filter _ List.pairwise_lt_range
theorem oth_mem {l : List Nat} {k x : Nat} : x ∈ oth l k ↔ x < k ∧ 128 ≤ l.getD x 0 := by simp [oth]
theorem oth_le (l : List Nat) (k : Nat) : (oth l k).length ≤ k := by
  have := List.length_filter_le (fun i => decide (128 ≤ l.getD i 0)) (List.range k)
  simpa [oth] using this

/-- A step's delta. -/
theorem step_delta {l : List Nat} {M : Nat → Bool} {N p n i d : Nat} (hp : p < N) (hM : M p = false) (hn : n ≤ l.getD p 0) (hi : i ≤ (l.getD p 0 - n) * (cnt M N + 1) + cnt M p) (hd : d = (l.getD p 0 - n) * (cnt M N + 1) + cnt M p - i) (rest : List Nat) :
    runD (d :: rest) (pick M l N) n i = runD rest (pick (mark M p) l N) (l.getD p 0) (cnt M p + 1) := by
  have hlen := pick_length M l N
  have hc : cnt M p ≤ cnt M N := cnt_mono M (by omega)
  have e : i + d = cnt M p + (cnt M N + 1) * (l.getD p 0 - n) := by rw [hd, Nat.mul_comm (cnt M N + 1)]; omega
  have e1 : (i + d) % (cnt M N + 1) = cnt M p := by rw [e, Nat.add_mul_mod_self_left, Nat.mod_eq_of_lt (by omega)]
  have e2 : (i + d) / (cnt M N + 1) = l.getD p 0 - n := by rw [e, Nat.add_mul_div_left _ _ (by omega), Nat.div_eq_of_lt (by omega)]; omega
  show runD rest (ins _ ((i + d) % ((pick M l N).length + 1)) (n + (i + d) / ((pick M l N).length + 1))) (n + (i + d) / ((pick M l N).length + 1)) ((i + d) % ((pick M l N).length + 1) + 1) = _
  rw [hlen, e1, e2, show n + (l.getD p 0 - n) = l.getD p 0 by omega, pick_mark M l p hM N hp]
/-- What is asked of those that are left. -/
def Left (l : List Nat) (M : Nat → Bool) (N n i : Nat) (D : List Nat) : Prop := ∀ p ∈ D, p < N ∧ M p = false ∧ n ≤ l.getD p 0 ∧ i ≤ (l.getD p 0 - n) * (cnt M N + 1) + cnt M p
theorem Left.next {l : List Nat} {M : Nat → Bool} {N n i p : Nat} {D : List Nat} (h : Left l M N n i (p :: D)) (hs : Srt (fun x => (l.getD x 0 : Int)) (p :: D)) : Left l (mark M p) N (l.getD p 0) (cnt M p + 1) D := by
  intro q hq
  obtain ⟨p1, p2, p3, p4⟩ := h p (List.mem_cons_self ..)
  obtain ⟨q1, q2, q3, q4⟩ := h q (List.mem_cons_of_mem _ hq)
  have hpq : prec (fun x => (l.getD x 0 : Int)) p q := (List.pairwise_cons.1 hs).1 q hq
  have hne : p ≠ q := fun e => prec_irrefl (e ▸ hpq)
  have hcN := cnt_mark M p p2 N
  have hcq := cnt_mark M p p2 q
  rw [if_pos p1] at hcN
  have hcp : cnt M p ≤ cnt M N := cnt_mono M (by omega)
  have hle : l.getD p 0 ≤ l.getD q 0 := by
    unfold prec at hpq
    simp only at hpq
    omega
  refine ⟨q1, ?_, hle, ?_⟩
  · show (M q || q == p) = false
    rw [q2, beq_eq_false_iff_ne.2 (Ne.symm hne)]; rfl
  · rw [hcN, hcq]
    by_cases e : l.getD p 0 = l.getD q 0
    · have : p < q := by unfold prec at hpq; simp only at hpq; omega
      rw [if_pos this]
      have := cnt_mono M (Nat.le_of_lt this)
      omega
    · have h1 : 1 ≤ l.getD q 0 - l.getD p 0 := by omega
      have h2 : 1 * (cnt M N + 1 + 1) ≤ (l.getD q 0 - l.getD p 0) * (cnt M N + 1 + 1) := Nat.mul_le_mul_right _ h1
      omega
/-- Where the deltas stand. -/
structure Run (l : List Nat) (M : Nat → Bool) (n i bias h : Nat) (T : List UInt8) : Prop where
  ex : ∃ ds, (∀ rest, tells (basicOf l).length (ds ++ rest) 72 (basicOf l).length = T ++ tells (basicOf l).length rest bias h) ∧ (∀ rest, (runD (ds ++ rest) (basicOf l) 128 0).1 = (runD rest (pick M l l.length) n i).1)
theorem Run.start (l : List Nat) : Run l (bas l l.length) 128 0 72 (basicOf l).length [] :=
  ⟨[], fun _ => rfl, fun rest => by rw [pick_bas l l.length l.length (Nat.le_refl _) (Nat.le_refl _), List.take_length]; rfl⟩
theorem Run.next {l : List Nat} {M : Nat → Bool} {n i bias h p d : Nat} {T : List UInt8} {D : List Nat} (hr : Run l M n i bias h T) (hl : Left l M l.length n i (p :: D)) (hd : d = (l.getD p 0 - n) * (cnt M l.length + 1) + cnt M p - i) :
    Run l (mark M p) (l.getD p 0) (cnt M p + 1) (adapt d (h + 1) (h == (basicOf l).length)) (h + 1) (T ++ tellK d bias 36) := by
  obtain ⟨ds, h1, h2⟩ := hr.ex
  obtain ⟨p1, p2, p3, p4⟩ := hl p (List.mem_cons_self ..)
  refine ⟨ds ++ [d], fun rest => ?_, fun rest => ?_⟩
  · rw [List.append_assoc, List.append_assoc]
    exact h1 (d :: rest)
  · rw [List.append_assoc]
    exact (h2 (d :: rest)).trans (by rw [step_delta p1 p2 p3 p4 hd])
theorem Run.done {l : List Nat} {M : Nat → Bool} {n i bias h : Nat} {T : List UInt8} (hr : Run l M n i bias h T) (hs : ∀ x ∈ l, sc x = true) (hM : ∀ i, i < l.length → M i = true) :
    (basicOf l).map UInt8.ofNat ++ (if (basicOf l).length = 0 then [] else [45]) ++ T = penc l := by
  obtain ⟨ds, h1, h2⟩ := hr.ex
  have a1 := h1 []
  have a2 := h2 []
  rw [List.append_nil] at a1 a2
  rw [pick_all M l l.length (Nat.le_refl _) hM, List.take_length] at a2
  have hr2 := run_deltas hs
  have hi : Inv (basicOf l) 128 0 := ⟨fun x hx => Nat.le_of_lt (basicOf_small l x hx), fun x hx => basicOf_small l x (List.mem_of_mem_drop hx)⟩
  have e : ds = deltas l l.length 128 0 (basicOf l).length := runD_inj hi _ _ (a2.trans hr2.symm)
  unfold penc
  rw [← e, a1]
  simp [tells]
theorem Left.start {l : List Nat} {D : List Nat} (hD : D.Perm (oth l l.length)) : Left l (bas l l.length) l.length 128 0 D := by
  intro p hp
  obtain ⟨h1, h2⟩ := oth_mem.1 (hD.subset hp)
  refine ⟨h1, ?_, h2, Nat.zero_le _⟩
  unfold bas
  rw [decide_eq_false (show ¬ l.getD p 0 < 128 by omega), Bool.and_false]
theorem cnt_bas (l : List Nat) : cnt (bas l l.length) l.length = (basicOf l).length := by
  rw [← pick_length (bas l l.length) l, pick_bas l l.length l.length (Nat.le_refl _) (Nat.le_refl _), List.take_length]
theorem bas_oth (l : List Nat) : ∀ k, k ≤ l.length → (basicOf (l.take k)).length + (oth l k).length = k := by
  intro k
  induction k with
  | zero => intro _; rfl
  | succ k ih =>
    intro h
    have := ih (by omega)
    by_cases hs : l[k] < 128
    · rw [oth_small (by omega) hs, List.take_succ_eq_append_getElem (by omega), basicOf, List.filter_append, List.length_append]
      simp only [basicOf] at this
      simp [hs]
      omega
    · rw [oth_great (by omega) hs, List.take_succ_eq_append_getElem (by omega), basicOf, List.filter_append, List.length_append, List.length_append]
      simp only [basicOf] at this
      simp [hs]
      omega
end Go.Proofs.YtmnpefpglpabmaaDoor

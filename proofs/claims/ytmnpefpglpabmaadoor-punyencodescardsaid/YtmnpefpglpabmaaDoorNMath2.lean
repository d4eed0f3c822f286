/-
  Punycode's machine: deltas put code points into a list; what a list's deltas are; there and back.
-/
import Derived.Test.YtmnpefpglpabmaaDoorNMath
namespace Go.Proofs.YtmnpefpglpabmaaDoor

/-- A list with a number at a place. -/
def ins (cur : List Nat) (p n : Nat) : List Nat := cur.take p ++ n :: cur.drop p
theorem ins_length (cur : List Nat) (p n : Nat) : (ins cur p n).length = cur.length + 1 := by
  simp [ins]; omega
theorem mem_ins {cur : List Nat} {p n x : Nat} : x ∈ ins cur p n ↔ x = n ∨ x ∈ cur := by
  unfold ins
  rw [List.mem_append, List.mem_cons]
  constructor
  · rintro (h | h | h)
    · exact .inr (List.mem_of_mem_take h)
    · exact .inl h
    · exact .inr (List.mem_of_mem_drop h)
  · rintro (h | h)
    · exact .inr (.inl h)
    · rw [← List.take_append_drop p cur, List.mem_append] at h
      rcases h with h | h
      · exact .inl h
      · exact .inr (.inr h)

/-- Deltas put numbers into a list. -/
def runD : List Nat → List Nat → Nat → Nat → List Nat × Nat × Nat
  | [], cur, n, i => (cur, n, i)
  | d :: ds, cur, n, i => runD ds (ins cur ((i + d) % (cur.length + 1)) (n + (i + d) / (cur.length + 1))) (n + (i + d) / (cur.length + 1)) ((i + d) % (cur.length + 1) + 1)

theorem runD_append (as bs : List Nat) : ∀ (cur : List Nat) (n i : Nat), runD (as ++ bs) cur n i = runD bs (runD as cur n i).1 (runD as cur n i).2.1 (runD as cur n i).2.2 := by
  induction as with
  | nil => intro cur n i; rfl
  | cons d as ih => intro cur n i; exact ih _ _ _
theorem runD_length (ds : List Nat) : ∀ (cur : List Nat) (n i : Nat), (runD ds cur n i).1.length = cur.length + ds.length := by
  induction ds with
  | nil => intro cur n i; rfl
  | cons d ds ih =>
    intro cur n i
    show (runD ds _ _ _).1.length = _
    rw [ih, ins_length, List.length_cons]; omega
theorem runD_mem (ds : List Nat) : ∀ (cur : List Nat) (n i x : Nat), x ∈ cur → x ∈ (runD ds cur n i).1 := by
  induction ds with
  | nil => intro cur n i x h; exact h
  | cons d ds ih => intro cur n i x h; exact ih _ _ _ _ (mem_ins.2 (.inr h))
/-- What is put in is not below the first number; the rest stays. -/
theorem runD_filter (ds : List Nat) : ∀ (cur : List Nat) (n i b : Nat), b ≤ n → (runD ds cur n i).1.filter (· < b) = cur.filter (· < b) := by
  induction ds with
  | nil => intro cur n i b h; rfl
  | cons d ds ih =>
    intro cur n i b h
    show (runD ds _ _ _).1.filter _ = _
    rw [ih _ _ _ _ (Nat.le_trans h (Nat.le_add_right _ _))]
    unfold ins
    rw [List.filter_append, List.filter_cons_of_neg (by simpa using Nat.le_trans h (Nat.le_add_right _ _)), ← List.filter_append, List.take_append_drop]

/-! What a list's deltas are. -/

/-- A pass: the deltas of all that are n, and what is pending. -/
def scan (n : Nat) : List Nat → Nat → List Nat × Nat
  | [], d => ([], d)
  | c :: l, d => if c < n then scan n l (d + 1) else if c = n then (d :: (scan n l 0).1, (scan n l 0).2) else scan n l d
/-- The least one that is not below a number. -/
def least (l : List Nat) (n : Nat) : Nat := l.foldl (fun m c => if n ≤ c ∧ c < m then c else m) 1114112
/-- All passes. -/
def deltas (l : List Nat) : Nat → Nat → Nat → Nat → List Nat
  | 0, _, _, _ => []
  | f + 1, n, delta, h =>
    if h < l.length then
      (scan (least l n) l (delta + (least l n - n) * (h + 1))).1 ++ deltas l f (least l n + 1) ((scan (least l n) l (delta + (least l n - n) * (h + 1))).2 + 1) (h + (scan (least l n) l (delta + (least l n - n) * (h + 1))).1.length)
    else []

theorem least_go (n : Nat) : ∀ (l : List Nat) (m : Nat), let r := l.foldl (fun m c => if n ≤ c ∧ c < m then c else m) m
    (r = m ∨ (r ∈ l ∧ n ≤ r)) ∧ r ≤ m ∧ ∀ c ∈ l, n ≤ c → r ≤ c := by
  intro l
  induction l with
  | nil => intro m; exact ⟨.inl rfl, Nat.le_refl _, fun c hc => by cases hc⟩
  | cons c l ih =>
    intro m
    simp only [List.foldl_cons]
    by_cases h : n ≤ c ∧ c < m
    · rw [if_pos h]
      obtain ⟨h1, h2, h3⟩ := ih c
      refine ⟨.inr ?_, by omega, ?_⟩
      · rcases h1 with h1 | h1
        · rw [h1]; exact ⟨List.mem_cons_self .., h.1⟩
        · exact ⟨List.mem_cons_of_mem _ h1.1, h1.2⟩
      · intro x hx hn
        rcases List.mem_cons.1 hx with rfl | hx
        · exact h2
        · exact h3 x hx hn
    · rw [if_neg h]
      obtain ⟨h1, h2, h3⟩ := ih m
      refine ⟨?_, h2, ?_⟩
      · rcases h1 with h1 | h1
        · exact .inl h1
        · exact .inr ⟨List.mem_cons_of_mem _ h1.1, h1.2⟩
      · intro x hx hn
        rcases List.mem_cons.1 hx with rfl | hx
        · omega
        · exact h3 x hx hn
theorem least_spec {l : List Nat} {n : Nat} (hs : ∀ c ∈ l, c < 1114112) (h : ∃ c ∈ l, n ≤ c) : least l n ∈ l ∧ n ≤ least l n ∧ ∀ c ∈ l, n ≤ c → least l n ≤ c := by
  obtain ⟨h1, h2, h3⟩ := least_go n l 1114112
  obtain ⟨c, hc, hn⟩ := h
  have h4 : least l n ≤ c := h3 c hc hn
  have h5 := hs c hc
  rcases h1 with h1 | h1
  · exfalso
    have : least l n = 1114112 := h1
    omega
  · exact ⟨h1.1, h1.2, h3⟩

/-- The machine follows a pass. -/
theorem scan_run (n : Nat) : ∀ (l2 l1 : List Nat) (d n0 i0 : Nat), n0 ≤ n →
    i0 + d = (n - n0) * ((l1.filter (· ≤ n) ++ l2.filter (· < n)).length + 1) + (l1.filter (· ≤ n)).length →
    (runD (scan n l2 d).1 (l1.filter (· ≤ n) ++ l2.filter (· < n)) n0 i0).1 = (l1 ++ l2).filter (· ≤ n) ∧
    (runD (scan n l2 d).1 (l1.filter (· ≤ n) ++ l2.filter (· < n)) n0 i0).2.1 ≤ n ∧
    (runD (scan n l2 d).1 (l1.filter (· ≤ n) ++ l2.filter (· < n)) n0 i0).2.2 + (scan n l2 d).2 =
      (n - (runD (scan n l2 d).1 (l1.filter (· ≤ n) ++ l2.filter (· < n)) n0 i0).2.1) * (((l1 ++ l2).filter (· ≤ n)).length + 1) + ((l1 ++ l2).filter (· ≤ n)).length := by
  intro l2
  induction l2 with
  | nil =>
    intro l1 d n0 i0 hn h
    simp only [List.filter_nil, List.append_nil] at h ⊢
    exact ⟨rfl, hn, h⟩
  | cons c l2 ih =>
    intro l1 d n0 i0 hn h
    have happ : l1 ++ c :: l2 = (l1 ++ [c]) ++ l2 := by simp
    rw [happ]
    by_cases h1 : c < n
    · have e1 : (l1 ++ [c]).filter (· ≤ n) = l1.filter (· ≤ n) ++ [c] := by
        rw [List.filter_append]; congr 1; simp; omega
      have e2 : l1.filter (· ≤ n) ++ (c :: l2).filter (· < n) = (l1 ++ [c]).filter (· ≤ n) ++ l2.filter (· < n) := by
        rw [List.filter_cons_of_pos (by simpa using h1), e1]; simp
      have e3 : scan n (c :: l2) d = scan n l2 (d + 1) := by simp [scan, h1]
      rw [e2] at h ⊢
      rw [e3]
      refine ih (l1 ++ [c]) (d + 1) n0 i0 hn ?_
      rw [← Nat.add_assoc, h]
      have : ((l1 ++ [c]).filter (· ≤ n)).length = (l1.filter (· ≤ n)).length + 1 := by rw [e1]; simp
      omega
    · by_cases h2 : c = n
      · subst h2
        have e0 : (c :: l2).filter (· < c) = l2.filter (· < c) := List.filter_cons_of_neg (by simp)
        have e1 : (l1 ++ [c]).filter (· ≤ c) = l1.filter (· ≤ c) ++ [c] := by
          rw [List.filter_append]; congr 1; simp
        have e3 : scan c (c :: l2) d = (d :: (scan c l2 0).1, (scan c l2 0).2) := by simp [scan]
        rw [e0] at h ⊢
        rw [e3]
        obtain ⟨P, hP⟩ : ∃ P, l1.filter (· ≤ c) = P := ⟨_, rfl⟩
        rw [hP] at h e1 ⊢
        have hlen : P.length < (P ++ l2.filter (· < c)).length + 1 := by simp; omega
        have hdiv : (i0 + d) / ((P ++ l2.filter (· < c)).length + 1) = c - n0 := by
          rw [h, Nat.mul_comm, Nat.mul_add_div (by omega), Nat.div_eq_of_lt hlen, Nat.add_zero]
        have hmod : (i0 + d) % ((P ++ l2.filter (· < c)).length + 1) = P.length := by
          rw [h, Nat.mul_comm, Nat.mul_add_mod, Nat.mod_eq_of_lt hlen]
        have hcn : n0 + (c - n0) = c := by omega
        have hins : ins (P ++ l2.filter (· < c)) P.length c = (l1 ++ [c]).filter (· ≤ c) ++ l2.filter (· < c) := by
          unfold ins
          rw [List.take_left' rfl, List.drop_left' rfl, e1]
          simp
        show (runD (scan c l2 0).1 (ins _ ((i0 + d) % _) (n0 + (i0 + d) / _)) (n0 + (i0 + d) / _) ((i0 + d) % _ + 1)).1 = _ ∧ (runD (scan c l2 0).1 (ins _ ((i0 + d) % _) (n0 + (i0 + d) / _)) (n0 + (i0 + d) / _) ((i0 + d) % _ + 1)).2.1 ≤ _ ∧ (runD (scan c l2 0).1 (ins _ ((i0 + d) % _) (n0 + (i0 + d) / _)) (n0 + (i0 + d) / _) ((i0 + d) % _ + 1)).2.2 + (scan c l2 0).2 = (c - (runD (scan c l2 0).1 (ins _ ((i0 + d) % _) (n0 + (i0 + d) / _)) (n0 + (i0 + d) / _) ((i0 + d) % _ + 1)).2.1) * _ + _
        rw [hdiv, hmod, hcn, hins]
        refine ih (l1 ++ [c]) 0 c (P.length + 1) (Nat.le_refl _) ?_
        rw [e1]; simp
      · have e1 : (l1 ++ [c]).filter (· ≤ n) = l1.filter (· ≤ n) := by
          rw [List.filter_append, List.filter_cons_of_neg (by simp; omega)]; simp
        have e0 : (c :: l2).filter (· < n) = l2.filter (· < n) := List.filter_cons_of_neg (by simp; omega)
        have e3 : scan n (c :: l2) d = scan n l2 d := by simp [scan, h1, h2]
        rw [e0] at h ⊢
        rw [e3]
        have := ih (l1 ++ [c]) d n0 i0 hn
        rw [e1] at this
        exact this h
end Go.Proofs.YtmnpefpglpabmaaDoor

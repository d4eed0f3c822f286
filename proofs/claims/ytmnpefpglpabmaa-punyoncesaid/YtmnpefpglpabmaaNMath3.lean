/-
  Punycode's deltas there and back: a list's deltas put it together, and no others do.
-/
import Derived.Test.YtmnpefpglpabmaaNMath2
namespace Go.Proofs.Ytmnpefpglpabmaa

theorem scan_length (n : Nat) : ∀ (l : List Nat) (d : Nat), (scan n l d).1.length = l.count n := by
  intro l
  induction l with
  | nil => intro d; rfl
  | cons c l ih =>
    intro d
    by_cases h1 : c < n
    · rw [show scan n (c :: l) d = scan n l (d + 1) by simp [scan, h1], ih, List.count_cons_of_ne (by omega)]
    · by_cases h2 : c = n
      · subst h2
        rw [show scan c (c :: l) d = (d :: (scan c l 0).1, (scan c l 0).2) by simp [scan], List.count_cons_self, List.length_cons, ih]
      · rw [show scan n (c :: l) d = scan n l d by simp [scan, h1, h2], ih, List.count_cons_of_ne h2]

theorem filter_all {l : List Nat} {n : Nat} (h : l.length ≤ (l.filter (· < n)).length) : l.filter (· < n) = l := by
  have h1 := List.length_filter_le (· < n) l
  exact (List.filter_sublist (l := l)).eq_of_length (Nat.le_antisymm h1 h)
theorem filter_ex {l : List Nat} {n : Nat} (h : (l.filter (· < n)).length < l.length) : ∃ c ∈ l, n ≤ c := by
  by_cases e : ∃ c ∈ l, n ≤ c
  · exact e
  · exfalso
    have : l.filter (· < n) = l := List.filter_eq_self.2 fun c hc => by
      simp only [decide_eq_true_eq]
      exact Nat.lt_of_not_le fun hn => e ⟨c, hc, hn⟩
    rw [this] at h
    omega

/-- A list's deltas put it together. -/
theorem deltas_run (l : List Nat) (hs : ∀ c ∈ l, c < 1114112) : ∀ (f n delta h n0 i0 : Nat), l.length - h ≤ f → h = (l.filter (· < n)).length → n0 ≤ n →
    i0 + delta = (n - n0) * (h + 1) → (runD (deltas l f n delta h) (l.filter (· < n)) n0 i0).1 = l := by
  intro f
  induction f with
  | zero =>
    intro n delta h n0 i0 hf hh hn hi
    exact filter_all (by omega)
  | succ f ih =>
    intro n delta h n0 i0 hf hh hn hi
    unfold deltas
    by_cases hlt : h < l.length
    · rw [if_pos hlt]
      obtain ⟨hm1, hm2, hm3⟩ := least_spec hs (filter_ex (n := n) (by omega))
      obtain ⟨m, hm⟩ : ∃ m, least l n = m := ⟨_, rfl⟩
      rw [hm] at hm1 hm2 hm3 ⊢
      have e1 : l.filter (· < n) = l.filter (· < m) := by
        refine List.filter_congr fun c hc => ?_
        have := hm3 c hc
        by_cases h1 : c < n
        · simp [h1]; omega
        · simp [h1]; exact this (by omega)
      have e2 : l.filter (· ≤ m) = l.filter (· < m + 1) := by
        refine List.filter_congr fun c _ => ?_
        simp [Nat.lt_succ_iff]
      obtain ⟨dd, hdd⟩ : ∃ dd, delta + (m - n) * (h + 1) = dd := ⟨_, rfl⟩
      rw [hdd]
      have hpend : i0 + dd = (m - n0) * (h + 1) := by
        rw [← hdd, ← Nat.add_assoc, hi, ← Nat.add_mul]
        congr 1
        omega
      have key := scan_run m l [] dd n0 i0 (by omega) (by
        simp only [List.filter_nil, List.nil_append, List.length_nil, Nat.add_zero]
        rw [← e1, ← hh]; exact hpend)
      simp only [List.filter_nil, List.nil_append] at key
      obtain ⟨k1, k2, k3⟩ := key
      have hlen := runD_length (scan m l dd).1 (l.filter (· < m)) n0 i0
      have hcnt := scan_length m l dd
      have hpos : 1 ≤ l.count m := List.count_pos_iff.2 hm1
      rw [runD_append, e1, k1, e2]
      rw [k1] at hlen
      rw [e2] at hlen k3
      have hh' : h = (l.filter (· < m)).length := by rw [← e1]; exact hh
      refine ih (m + 1) _ _ _ _ ?_ ?_ (by omega) ?_
      · omega
      · rw [hlen, hh']
      · rw [← Nat.add_assoc, k3, hlen, hh']
        generalize (runD (scan m l dd).1 (l.filter (· < m)) n0 i0).2.1 = n1 at k2 ⊢
        have : m + 1 - n1 = (m - n1) + 1 := by omega
        rw [this, Nat.add_mul, Nat.one_mul]
        omega
    · rw [if_neg hlt]
      exact filter_all (by omega)

/-- All that is there is not above n; what is behind the place is below it. -/
def Inv (cur : List Nat) (n i : Nat) : Prop := (∀ x ∈ cur, x ≤ n) ∧ ∀ x ∈ cur.drop i, x < n
theorem inv_pre {cur : List Nat} {n i : Nat} (h : Inv cur n i) (d : Nat) :
    (∀ x ∈ cur, x ≤ n + (i + d) / (cur.length + 1)) ∧ (∀ x ∈ cur.drop ((i + d) % (cur.length + 1)), x < n + (i + d) / (cur.length + 1)) ∧ (i + d) % (cur.length + 1) ≤ cur.length := by
  have hle : (i + d) % (cur.length + 1) ≤ cur.length := Nat.lt_succ_iff.1 (Nat.mod_lt _ (by omega))
  refine ⟨fun x hx => Nat.le_trans (h.1 x hx) (Nat.le_add_right _ _), fun x hx => ?_, hle⟩
  by_cases hz : (i + d) / (cur.length + 1) = 0
  · have hmod : (i + d) % (cur.length + 1) = i + d := by
      have := Nat.div_add_mod (i + d) (cur.length + 1)
      rw [hz] at this
      omega
    rw [hz]
    rw [hmod] at hx
    refine h.2 x ?_
    rw [← List.drop_drop] at hx
    exact List.mem_of_mem_drop hx
  · exact Nat.lt_of_le_of_lt (h.1 x (List.mem_of_mem_drop hx)) (Nat.lt_add_of_pos_right (Nat.pos_of_ne_zero hz))
theorem ins_drop {cur : List Nat} {p n : Nat} (hp : p ≤ cur.length) : (ins cur p n).drop (p + 1) = cur.drop p := by
  unfold ins
  rw [List.drop_append, List.drop_eq_nil_of_le (by simp; omega)]
  simp [Nat.min_eq_left hp]
theorem ins_at {cur : List Nat} {p n : Nat} (hp : p ≤ cur.length) : (ins cur p n)[p]? = some n := by
  unfold ins
  rw [List.getElem?_append_right (by simp; omega)]
  simp [Nat.min_eq_left hp]
theorem ins_back {cur : List Nat} {p n : Nat} (hp : p ≤ cur.length) : (ins cur p n).take p ++ (ins cur p n).drop (p + 1) = cur := by
  rw [ins_drop hp]
  unfold ins
  rw [List.take_append_of_le_length (by simp; omega), List.take_take]
  simp
theorem inv_step {cur : List Nat} {n i : Nat} (h : Inv cur n i) (d : Nat) :
    Inv (ins cur ((i + d) % (cur.length + 1)) (n + (i + d) / (cur.length + 1))) (n + (i + d) / (cur.length + 1)) ((i + d) % (cur.length + 1) + 1) := by
  obtain ⟨h1, h2, h3⟩ := inv_pre h d
  refine ⟨fun x hx => ?_, fun x hx => ?_⟩
  · rcases mem_ins.1 hx with rfl | hx
    · exact Nat.le_refl _
    · exact h1 x hx
  · rw [ins_drop h3] at hx
    exact h2 x hx
theorem inv_run (ds : List Nat) : ∀ (cur : List Nat) (n i : Nat), Inv cur n i → Inv (runD ds cur n i).1 (runD ds cur n i).2.1 (runD ds cur n i).2.2 := by
  induction ds with
  | nil => intro cur n i h; exact h
  | cons d ds ih => intro cur n i h; exact ih _ _ _ (inv_step h d)
theorem last_ins {c1 c2 : List Nat} {p1 p2 n1 n2 : Nat} (h : ins c1 p1 n1 = ins c2 p2 n2) (a1 : ∀ x ∈ c1, x ≤ n1) (a2 : ∀ x ∈ c2, x ≤ n2)
    (b1 : ∀ x ∈ c1.drop p1, x < n1) (b2 : ∀ x ∈ c2.drop p2, x < n2) (q1 : p1 ≤ c1.length) (q2 : p2 ≤ c2.length) : n1 = n2 ∧ p1 = p2 ∧ c1 = c2 := by
  have m1 : n1 ∈ ins c2 p2 n2 := h ▸ mem_ins.2 (.inl rfl)
  have m2 : n2 ∈ ins c1 p1 n1 := h.symm ▸ mem_ins.2 (.inl rfl)
  have l1 : n1 ≤ n2 := (mem_ins.1 m1).elim (fun e => Nat.le_of_eq e) (a2 n1)
  have l2 : n2 ≤ n1 := (mem_ins.1 m2).elim (fun e => Nat.le_of_eq e) (a1 n2)
  obtain rfl : n1 = n2 := Nat.le_antisymm l1 l2
  have far : ∀ {c c' : List Nat} {p p' : Nat}, ins c p n1 = ins c' p' n1 → (∀ x ∈ c.drop p, x < n1) → p ≤ c.length → p' ≤ c'.length → ¬ p < p' := by
    intro c c' p p' e b q q' hlt
    have h1 := ins_at (n := n1) q'
    rw [← e] at h1
    have h2 : n1 ∈ (ins c p n1).drop (p + 1) := by
      refine List.mem_iff_getElem?.2 ⟨p' - (p + 1), ?_⟩
      rw [List.getElem?_drop, show p + 1 + (p' - (p + 1)) = p' by omega]
      exact h1
    rw [ins_drop q] at h2
    exact absurd (b n1 h2) (Nat.lt_irrefl _)
  obtain rfl : p1 = p2 := by
    have := far h b1 q1 q2
    have := far h.symm b2 q2 q1
    omega
  refine ⟨rfl, rfl, ?_⟩
  rw [← ins_back (n := n1) q1, h, ins_back q2]
/-- No other deltas put a list together. -/
theorem runD_inj {cur : List Nat} {n i : Nat} (hi : Inv cur n i) : ∀ (ds es : List Nat), (runD ds cur n i).1 = (runD es cur n i).1 → ds = es := by
  intro ds
  induction hk : ds.length generalizing ds with
  | zero =>
    intro es h
    have := congrArg List.length h
    rw [runD_length, runD_length, hk] at this
    rw [List.eq_nil_of_length_eq_zero hk, List.eq_nil_of_length_eq_zero (l := es) (by omega)]
  | succ k ih0 =>
    rcases List.eq_nil_or_concat ds with rfl | ⟨ds, d, rfl⟩
    · simp at hk
    rw [List.concat_eq_append] at hk ⊢
    have ih := ih0 ds (by simpa using hk)
    intro es h
    have hl := congrArg List.length h
    rw [runD_length, runD_length] at hl
    rcases List.eq_nil_or_concat es with rfl | ⟨es', e, rfl⟩
    · simp at hl
    · rw [List.concat_eq_append] at h hl ⊢
      rw [runD_append, runD_append] at h
      have i1 := inv_run ds cur n i hi
      have i2 := inv_run es' cur n i hi
      obtain ⟨a1, b1, q1⟩ := inv_pre i1 d
      obtain ⟨a2, b2, q2⟩ := inv_pre i2 e
      obtain ⟨hn, hp, hc⟩ := last_ins h a1 a2 b1 b2 q1 q2
      obtain rfl := ih es' hc
      have hq : ((runD ds cur n i).2.2 + d) / ((runD ds cur n i).1.length + 1) = ((runD ds cur n i).2.2 + e) / ((runD ds cur n i).1.length + 1) := by omega
      have t1 := Nat.div_add_mod ((runD ds cur n i).2.2 + d) ((runD ds cur n i).1.length + 1)
      have t2 := Nat.div_add_mod ((runD ds cur n i).2.2 + e) ((runD ds cur n i).1.length + 1)
      rw [hq, hp] at t1
      have : d = e := by omega
      rw [this]
end Go.Proofs.Ytmnpefpglpabmaa

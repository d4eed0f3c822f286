/-
  In this text, one behind the other: NMath3, NMath4, NSmall, App, QSmall, PBld, QFind, LMath, NTell, NPut, NRefEnc, NRefEnc2, NRefDec.
-/
import Derived.Laws.AppendOwnNone
import Derived.Shelf.Strings.Builder1
import Derived.Test.YtfaieldafoeaiaaDoorG1
/-
  Punycode's deltas there and back: a list's deltas put it together, and no others do.
-/
namespace Go.Proofs.YtfaieldafoeaiaaDoor

theorem scan_length (n : Nat) : ∀ (l : List Nat) (d : Nat), (scan n l d).1.length = l.count n := by
  intro l
  induction l with
  | nil => intro d; rfl
  | cons c l ih =>
    intro d
    by_cases h1 : c < n
    · rw [show scan n (c :: l) d = scan n l (d + 1) by simp [scan, h1], ih, List.count_cons_of_ne (by omega)]
    · by_cases h2 : c = n
      · subst h2
        rw [show scan c (c :: l) d = (d :: (scan c l 0).1, (scan c l 0).2) by simp [scan], List.count_cons_self, List.length_cons, ih]
      · rw [show scan n (c :: l) d = scan n l d by simp [scan, h1, h2], ih, List.count_cons_of_ne h2]

theorem filter_all {l : List Nat} {n : Nat} (h : l.length ≤ (l.filter (· < n)).length) : l.filter (· < n) = l := by
  have h1 := List.length_filter_le (· < n) l
  exact (List.filter_sublist (l := l)).eq_of_length (Nat.le_antisymm h1 h)
theorem filter_ex {l : List Nat} {n : Nat} (h : (l.filter (· < n)).length < l.length) : ∃ c ∈ l, n ≤ c := by
  by_cases e : ∃ c ∈ l, n ≤ c
  · exact e
  · exfalso
    have : l.filter (· < n) = l := List.filter_eq_self.2 fun c hc => by
      simp only [decide_eq_true_eq]
      exact Nat.lt_of_not_le fun hn => e ⟨c, hc, hn⟩
    rw [this] at h
    omega

/-- A list's deltas put it together. -/
theorem deltas_run (l : List Nat) (hs : ∀ c ∈ l, c < 1114112) : ∀ (f n delta h n0 i0 : Nat), l.length - h ≤ f → h = (l.filter (· < n)).length → n0 ≤ n →
    i0 + delta = (n - n0) * (h + 1) → (runD (deltas l f n delta h) (l.filter (· < n)) n0 i0).1 = l := by
  intro f
  induction f with
  | zero =>
    intro n delta h n0 i0 hf hh hn hi
    exact filter_all (by omega)
  | succ f ih =>
    intro n delta h n0 i0 hf hh hn hi
    unfold deltas
    by_cases hlt : h < l.length
    · rw [if_pos hlt]
      obtain ⟨hm1, hm2, hm3⟩ := least_spec hs (filter_ex (n := n) (by omega))
      obtain ⟨m, hm⟩ : ∃ m, least l n = m := ⟨_, rfl⟩
      rw [hm] at hm1 hm2 hm3 ⊢
      have e1 : l.filter (· < n) = l.filter (· < m) := by
        refine List.filter_congr fun c hc => ?_
        have := hm3 c hc
        by_cases h1 : c < n
        · simp [h1]; omega
        · simp [h1]; exact this (by omega)
      have e2 : l.filter (· ≤ m) = l.filter (· < m + 1) := by
        refine List.filter_congr fun c _ => ?_
        simp [Nat.lt_succ_iff]
      obtain ⟨dd, hdd⟩ : ∃ dd, delta + (m - n) * (h + 1) = dd := ⟨_, rfl⟩
      rw [hdd]
      have hpend : i0 + dd = (m - n0) * (h + 1) := by
        rw [← hdd, ← Nat.add_assoc, hi, ← Nat.add_mul]
        congr 1
        omega
      have key := scan_run m l [] dd n0 i0 (by omega) (by
        simp only [List.filter_nil, List.nil_append, List.length_nil, Nat.add_zero]
        rw [← e1, ← hh]; exact hpend)
      simp only [List.filter_nil, List.nil_append] at key
      obtain ⟨k1, k2, k3⟩ := key
      have hlen := runD_length (scan m l dd).1 (l.filter (· < m)) n0 i0
      have hcnt := scan_length m l dd
      have hpos : 1 ≤ l.count m := List.count_pos_iff.2 hm1
      rw [runD_append, e1, k1, e2]
      rw [k1] at hlen
      rw [e2] at hlen k3
      have hh' : h = (l.filter (· < m)).length := by rw [← e1]; exact hh
      refine ih (m + 1) _ _ _ _ ?_ ?_ (by omega) ?_
      · omega
      · rw [hlen, hh']
      · rw [← Nat.add_assoc, k3, hlen, hh']
        generalize (runD (scan m l dd).1 (l.filter (· < m)) n0 i0).2.1 = n1 at k2 ⊢
        have : m + 1 - n1 = (m - n1) + 1 := by omega
        rw [this, Nat.add_mul, Nat.one_mul]
        omega
    · rw [if_neg hlt]
      exact filter_all (by omega)

/-- All that is there is not above n; what is behind the place is below it. -/
def Inv (cur : List Nat) (n i : Nat) : Prop := (∀ x ∈ cur, x ≤ n) ∧ ∀ x ∈ cur.drop i, x < n
theorem inv_pre {cur : List Nat} {n i : Nat} (h : Inv cur n i) (d : Nat) :
    (∀ x ∈ cur, x ≤ n + (i + d) / (cur.length + 1)) ∧ (∀ x ∈ cur.drop ((i + d) % (cur.length + 1)), x < n + (i + d) / (cur.length + 1)) ∧ (i + d) % (cur.length + 1) ≤ cur.length := by
  have hle : (i + d) % (cur.length + 1) ≤ cur.length := Nat.lt_succ_iff.1 (Nat.mod_lt _ (by omega))
  refine ⟨fun x hx => Nat.le_trans (h.1 x hx) (Nat.le_add_right _ _), fun x hx => ?_, hle⟩
  by_cases hz : (i + d) / (cur.length + 1) = 0
  · have hmod : (i + d) % (cur.length + 1) = i + d := by
      have := Nat.div_add_mod (i + d) (cur.length + 1)
      rw [hz] at this
      omega
    rw [hz]
    rw [hmod] at hx
    refine h.2 x ?_
    rw [← List.drop_drop] at hx
    exact List.mem_of_mem_drop hx
  · exact Nat.lt_of_le_of_lt (h.1 x (List.mem_of_mem_drop hx)) (Nat.lt_add_of_pos_right (Nat.pos_of_ne_zero hz))
theorem ins_drop {cur : List Nat} {p n : Nat} (hp : p ≤ cur.length) : (ins cur p n).drop (p + 1) = cur.drop p := by
  unfold ins
  rw [List.drop_append, List.drop_eq_nil_of_le (by simp; omega)]
  simp [Nat.min_eq_left hp]
theorem ins_at {cur : List Nat} {p n : Nat} (hp : p ≤ cur.length) : (ins cur p n)[p]? = some n := by
  unfold ins
  rw [List.getElem?_append_right (by simp; omega)]
  simp [Nat.min_eq_left hp]
theorem ins_back {cur : List Nat} {p n : Nat} (hp : p ≤ cur.length) : (ins cur p n).take p ++ (ins cur p n).drop (p + 1) = cur := by
  rw [ins_drop hp]
  unfold ins
  rw [List.take_append_of_le_length (by simp; omega), List.take_take]
  simp
theorem inv_step {cur : List Nat} {n i : Nat} (h : Inv cur n i) (d : Nat) :
    Inv (ins cur ((i + d) % (cur.length + 1)) (n + (i + d) / (cur.length + 1))) (n + (i + d) / (cur.length + 1)) ((i + d) % (cur.length + 1) + 1) := by
  obtain ⟨h1, h2, h3⟩ := inv_pre h d
  refine ⟨fun x hx => ?_, fun x hx => ?_⟩
  · rcases mem_ins.1 hx with rfl | hx
    · exact Nat.le_refl _
    · exact h1 x hx
  · rw [ins_drop h3] at hx
    exact h2 x hx
theorem inv_run (ds : List Nat) : ∀ (cur : List Nat) (n i : Nat), Inv cur n i → Inv (runD ds cur n i).1 (runD ds cur n i).2.1 (runD ds cur n i).2.2 := by
  induction ds with
  | nil => intro cur n i h; exact h
  | cons d ds ih => intro cur n i h; exact ih _ _ _ (inv_step h d)
theorem last_ins {c1 c2 : List Nat} {p1 p2 n1 n2 : Nat} (h : ins c1 p1 n1 = ins c2 p2 n2) (a1 : ∀ x ∈ c1, x ≤ n1) (a2 : ∀ x ∈ c2, x ≤ n2)
    (b1 : ∀ x ∈ c1.drop p1, x < n1) (b2 : ∀ x ∈ c2.drop p2, x < n2) (q1 : p1 ≤ c1.length) (q2 : p2 ≤ c2.length) : n1 = n2 ∧ p1 = p2 ∧ c1 = c2 := by
  have m1 : n1 ∈ ins c2 p2 n2 := h ▸ mem_ins.2 (.inl rfl)
  have m2 : n2 ∈ ins c1 p1 n1 := h.symm ▸ mem_ins.2 (.inl rfl)
  have l1 : n1 ≤ n2 := (mem_ins.1 m1).elim (fun e => Nat.le_of_eq e) (a2 n1)
  have l2 : n2 ≤ n1 := (mem_ins.1 m2).elim (fun e => Nat.le_of_eq e) (a1 n2)
  obtain rfl : n1 = n2 := Nat.le_antisymm l1 l2
  have far : ∀ {c c' : List Nat} {p p' : Nat}, ins c p n1 = ins c' p' n1 → (∀ x ∈ c.drop p, x < n1) → p ≤ c.length → p' ≤ c'.length → ¬ p < p' := by
    intro c c' p p' e b q q' hlt
    have h1 := ins_at (n := n1) q'
    rw [← e] at h1
    have h2 : n1 ∈ (ins c p n1).drop (p + 1) := by
      refine List.mem_iff_getElem?.2 ⟨p' - (p + 1), ?_⟩
      rw [List.getElem?_drop, show p + 1 + (p' - (p + 1)) = p' by omega]
      exact h1
    rw [ins_drop q] at h2
    exact absurd (b n1 h2) (Nat.lt_irrefl _)
  obtain rfl : p1 = p2 := by
    have := far h b1 q1 q2
    have := far h.symm b2 q2 q1
    omega
  refine ⟨rfl, rfl, ?_⟩
  rw [← ins_back (n := n1) q1, h, ins_back q2]
/-- No other deltas put a list together. -/
theorem runD_inj {cur : List Nat} {n i : Nat} (hi : Inv cur n i) : ∀ (ds es : List Nat), (runD ds cur n i).1 = (runD es cur n i).1 → ds = es := by
  intro ds
  induction hk : ds.length generalizing ds with
  | zero =>
    intro es h
    have := congrArg List.length h
    rw [runD_length, runD_length, hk] at this
    rw [List.eq_nil_of_length_eq_zero hk, List.eq_nil_of_length_eq_zero (l := es) (by omega)]
  | succ k ih0 =>
    rcases List.eq_nil_or_concat ds with rfl | ⟨ds, d, rfl⟩
    · simp at hk
    rw [List.concat_eq_append] at hk ⊢
    have ih := ih0 ds (by simpa using hk)
    intro es h
    have hl := congrArg List.length h
    rw [runD_length, runD_length] at hl
    rcases List.eq_nil_or_concat es with rfl | ⟨es', e, rfl⟩
    · simp at hl
    · rw [List.concat_eq_append] at h hl ⊢
      rw [runD_append, runD_append] at h
      have i1 := inv_run ds cur n i hi
      have i2 := inv_run es' cur n i hi
      obtain ⟨a1, b1, q1⟩ := inv_pre i1 d
      obtain ⟨a2, b2, q2⟩ := inv_pre i2 e
      obtain ⟨hn, hp, hc⟩ := last_ins h a1 a2 b1 b2 q1 q2
      obtain rfl := ih es' hc
      have hq : ((runD ds cur n i).2.2 + d) / ((runD ds cur n i).1.length + 1) = ((runD ds cur n i).2.2 + e) / ((runD ds cur n i).1.length + 1) := by omega
      have t1 := Nat.div_add_mod ((runD ds cur n i).2.2 + d) ((runD ds cur n i).1.length + 1)
      have t2 := Nat.div_add_mod ((runD ds cur n i).2.2 + e) ((runD ds cur n i).1.length + 1)
      rw [hq, hp] at t1
      have : d = e := by omega
      rw [this]
end Go.Proofs.YtfaieldafoeaiaaDoor

/-
  Punycode as texts: Encode and Decode as plain functions, there and back.
-/
namespace Go.Proofs.YtfaieldafoeaiaaDoor

/-- Deltas told by digits. -/
def tells (basic : Nat) : List Nat → Nat → Nat → List UInt8
  | [], _, _ => []
  | d :: ds, bias, h => tellK d bias 36 ++ tells basic ds (adapt d (h + 1) (h == basic)) (h + 1)
/-- A scalar. -/
def sc (n : Nat) : Bool := decide (n ≤ 1114111) && (decide (n < 55296) || decide (57343 < n))
/-- What a text of digits puts into a list. -/
def decT : Nat → List UInt8 → List Nat → Nat → Nat → Nat → Option (List Nat)
  | _, [], cur, _, _, _ => some cur
  | 0, _ :: _, _, _, _, _ => none
  | f + 1, c :: s, cur, n, i, bias =>
    match par (c :: s) bias 36 1 i with
    | none => none
    | some (j, r) =>
      if sc (n + j / (cur.length + 1)) then
        decT f r (ins cur (j % (cur.length + 1)) (n + j / (cur.length + 1))) (n + j / (cur.length + 1)) (j % (cur.length + 1) + 1) (adapt (j - i) (cur.length + 1) (i == 0))
      else none
def basicOf (l : List Nat) : List Nat := l.filter (· < 128)
/-- Encode. -/
def penc (l : List Nat) : List UInt8 :=
  (basicOf l).map UInt8.ofNat ++ (if (basicOf l).length = 0 then [] else [45]) ++ tells (basicOf l).length (deltas l l.length 128 0 (basicOf l).length) 72 (basicOf l).length
/-- The place of the last hyphen; -1: there is none. -/
def hyph (s : List UInt8) : Int := (s.length : Int) - 1 - (s.reverse.findIdx (· == 45) : Nat)
/-- Decode. -/
def pdec (s : List UInt8) : Option (List Nat) :=
  if s.any (fun b => decide (128 ≤ b.toNat)) then none
  else if 0 < hyph s then decT s.length (s.drop ((hyph s).toNat + 1)) ((s.take (hyph s).toNat).map UInt8.toNat) 128 0 72
  else decT s.length s [] 128 0 72
/-- Letters behind the last hyphen made small. -/
def small (s : List UInt8) : List UInt8 := s.take (hyph s + 1).toNat ++ (s.drop (hyph s + 1).toNat).map lower

theorem tellK_ne (bias : Nat) (q k : Nat) : tellK q bias k ≠ [] := by
  by_cases h : q < thr k bias
  · rw [tellK_small h]; simp
  · rw [tellK_more h]; simp
theorem tellK_bytes (bias : Nat) : ∀ (q k : Nat), ∀ b ∈ tellK q bias k, b.toNat < 128 ∧ b ≠ 45 := by
  intro q
  induction q using Nat.strongRecOn with
  | _ q ih =>
    intro k b hb
    have ht := thr_pos k bias
    by_cases h : q < thr k bias
    · rw [tellK_small h] at hb
      simp only [List.mem_singleton] at hb
      subst hb
      exact (dig_val ⟨q, by omega⟩).2
    · rw [tellK_more h] at hb
      have hm : (q - thr k bias) % (36 - thr k bias) < 36 - thr k bias := Nat.mod_lt _ (by omega)
      rcases List.mem_cons.1 hb with rfl | hb
      · exact (dig_val ⟨_, by omega⟩).2
      · exact ih _ (by
          have h1 : (q - thr k bias) / (36 - thr k bias) ≤ q - thr k bias := Nat.div_le_self _ _
          omega) _ b hb
theorem tells_bytes (basic : Nat) (ds : List Nat) : ∀ (bias h : Nat), ∀ b ∈ tells basic ds bias h, b.toNat < 128 ∧ b ≠ 45 := by
  induction ds with
  | nil => intro bias h b hb; simp [tells] at hb
  | cons d ds ih =>
    intro bias h b hb
    rcases List.mem_append.1 hb with hb | hb
    · exact tellK_bytes _ _ _ b hb
    · exact ih _ _ b hb
theorem dtells_length (basic : Nat) (ds : List Nat) : ∀ (bias h : Nat), ds.length ≤ (tells basic ds bias h).length := by
  induction ds with
  | nil => intro bias h; simp [tells]
  | cons d ds ih =>
    intro bias h
    have h1 := ih (adapt d (h + 1) (h == basic)) (h + 1)
    have h2 := List.length_pos_iff.2 (tellK_ne bias d 36)
    show _ ≤ (tellK d bias 36 ++ _).length
    rw [List.length_append, List.length_cons]
    omega

/-- The first one, or not. -/
def Flag (basic len i : Nat) : Prop := (len = basic ∧ i = 0) ∨ (basic < len ∧ 1 ≤ i)
theorem Flag.eq {basic len i : Nat} (h : Flag basic len i) : (len == basic) = (i == 0) := by
  rcases h with ⟨rfl, rfl⟩ | ⟨h1, h2⟩
  · simp
  · rw [beq_eq_false_iff_ne.2 (by omega), beq_eq_false_iff_ne.2 (by omega)]
theorem Flag.next {basic len i p : Nat} (h : Flag basic len i) : Flag basic (len + 1) (p + 1) := by
  rcases h with ⟨rfl, rfl⟩ | ⟨h1, h2⟩
  · exact .inr ⟨by omega, by omega⟩
  · exact .inr ⟨by omega, by omega⟩

/-- Deltas that are told are read. -/
theorem decT_tells (basic : Nat) (ds : List Nat) : ∀ (f : Nat) (cur : List Nat) (n i bias : Nat), (tells basic ds bias cur.length).length ≤ f → Flag basic cur.length i →
    (∀ x ∈ (runD ds cur n i).1, sc x = true) → (runD ds cur n i).1.length ≤ 250 → decT f (tells basic ds bias cur.length) cur n i bias = some (runD ds cur n i).1 := by
  induction ds with
  | nil => intro f cur n i bias hf hfl hs hl; cases f <;> rfl
  | cons d ds ih =>
    intro f cur n i bias hf hfl hs hl
    obtain ⟨f, rfl⟩ : ∃ g, f = g + 1 := by
      have h2 := List.length_pos_iff.2 (tellK_ne bias d 36)
      have : (tells basic (d :: ds) bias cur.length).length = (tellK d bias 36).length + (tells basic ds (adapt d (cur.length + 1) (cur.length == basic)) (cur.length + 1)).length := List.length_append
      exact ⟨f - 1, by omega⟩
    have hlen : cur.length + (d :: ds).length ≤ 250 := by rw [← runD_length (d :: ds) cur n i]; exact hl
    rw [List.length_cons] at hlen
    have hin : n + (i + d) / (cur.length + 1) ∈ (runD (d :: ds) cur n i).1 := runD_mem ds _ _ _ _ (mem_ins.2 (.inl rfl))
    have hsc := hs _ hin
    have hle : (i + d) / (cur.length + 1) ≤ 1114111 := by
      simp only [sc, Bool.and_eq_true, decide_eq_true_eq] at hsc
      exact Nat.le_trans (Nat.le_add_left _ _) hsc.1
    have hb1 : i + d < 1114112 * (cur.length + 1) := (Nat.div_lt_iff_lt_mul (by omega)).1 (by omega)
    have hb : i + d < 1114112 * 251 := Nat.lt_of_lt_of_le hb1 (Nat.mul_le_mul_left _ (by omega))
    have hp := par_tell bias (tells basic ds (adapt d (cur.length + 1) (cur.length == basic)) (cur.length + 1)) d 36 1 i (by omega) (by omega)
    rw [Nat.mul_one] at hp
    have htx : tells basic (d :: ds) bias cur.length = tellK d bias 36 ++ tells basic ds (adapt d (cur.length + 1) (cur.length == basic)) (cur.length + 1) := rfl
    rw [← htx] at hp
    cases ht : tells basic (d :: ds) bias cur.length with
    | nil => rw [htx] at ht; exact absurd (List.append_eq_nil_iff.1 ht).1 (tellK_ne _ _ _)
    | cons c s =>
      rw [ht] at hp
      unfold decT
      rw [hp]
      simp only
      rw [if_pos hsc, show i + d - i = d by omega, ← hfl.eq]
      have hl1 := ins_length cur ((i + d) % (cur.length + 1)) (n + (i + d) / (cur.length + 1))
      have := ih f (ins cur ((i + d) % (cur.length + 1)) (n + (i + d) / (cur.length + 1))) (n + (i + d) / (cur.length + 1)) ((i + d) % (cur.length + 1) + 1) (adapt d (cur.length + 1) (cur.length == basic))
      rw [hl1] at this
      refine this ?_ hfl.next hs hl
      have h2 := List.length_pos_iff.2 (tellK_ne bias d 36)
      rw [htx, List.length_append] at hf
      omega

/-- What is read is how it is told. -/
theorem tells_decT (basic : Nat) : ∀ (f : Nat) (s : List UInt8) (cur : List Nat) (n i bias : Nat) (l : List Nat), decT f s cur n i bias = some l → Flag basic cur.length i →
    (∀ x ∈ cur, sc x = true) → ∃ ds, s.map lower = tells basic ds bias cur.length ∧ (runD ds cur n i).1 = l ∧ ∀ x ∈ l, sc x = true := by
  intro f
  induction f with
  | zero =>
    intro s cur n i bias l h hfl hs
    cases s with
    | nil =>
      simp only [decT, Option.some.injEq] at h
      subst h
      exact ⟨[], rfl, rfl, hs⟩
    | cons c s => simp [decT] at h
  | succ f ih =>
    intro s cur n i bias l h hfl hs
    cases s with
    | nil =>
      simp only [decT, Option.some.injEq] at h
      subst h
      exact ⟨[], rfl, rfl, hs⟩
    | cons c s =>
      unfold decT at h
      split at h
      · cases h
      · rename_i j r hp
        split at h
        · rename_i hsc
          obtain ⟨q, pre, hj, he, hne, hpre, _⟩ := tell_par bias _ _ _ _ _ _ hp
          rw [Nat.mul_one] at hj
          subst hj
          rw [show i + q - i = q by omega, ← hfl.eq] at h
          have hl1 := ins_length cur ((i + q) % (cur.length + 1)) (n + (i + q) / (cur.length + 1))
          obtain ⟨ds, h1, h2, h3⟩ := ih _ _ _ _ _ _ h (by rw [hl1]; exact hfl.next) (fun x hx => by
            rcases mem_ins.1 hx with rfl | hx
            · exact hsc
            · exact hs x hx)
          refine ⟨q :: ds, ?_, h2, h3⟩
          rw [he, List.map_append, hpre, h1, hl1]
          rfl
        · cases h

theorem hyph_none {s : List UInt8} (h : (45 : UInt8) ∉ s) : hyph s = -1 := by
  unfold hyph
  have : s.reverse.findIdx (· == 45) = s.reverse.length := by
    rw [List.findIdx_eq_length]
    intro x hx
    rw [beq_eq_false_iff_ne]
    rintro rfl
    exact h (List.mem_reverse.1 hx)
  rw [this, List.length_reverse]
  omega
theorem hyph_at {a b : List UInt8} (h : (45 : UInt8) ∉ b) : hyph (a ++ 45 :: b) = a.length := by
  unfold hyph
  have e : (a ++ 45 :: b).reverse = b.reverse ++ 45 :: a.reverse := by simp
  have : (b.reverse ++ 45 :: a.reverse).findIdx (· == 45) = b.length := by
    rw [List.findIdx_append]
    have : b.reverse.findIdx (· == 45) = b.reverse.length := by
      rw [List.findIdx_eq_length]
      intro x hx
      rw [beq_eq_false_iff_ne]
      rintro rfl
      exact h (List.mem_reverse.1 hx)
    rw [this, if_neg (by omega)]
    simp [List.findIdx_cons]
  rw [e, this]
  simp
  omega
theorem split_last {s : List UInt8} (h : (45 : UInt8) ∈ s) : ∃ a b, s = a ++ 45 :: b ∧ (45 : UInt8) ∉ b := by
  induction s with
  | nil => cases h
  | cons c s ih =>
    by_cases hs : (45 : UInt8) ∈ s
    · obtain ⟨a, b, rfl, hb⟩ := ih hs
      exact ⟨c :: a, b, rfl, hb⟩
    · rcases List.mem_cons.1 h with rfl | h
      · exact ⟨[], s, rfl, hs⟩
      · exact absurd h hs

theorem sc_lt {n : Nat} (h : sc n = true) : n < 1114112 := by
  simp only [sc, Bool.and_eq_true, decide_eq_true_eq] at h
  omega
theorem sc_small {n : Nat} (h : n < 128) : sc n = true := by
  simp only [sc, Bool.and_eq_true, Bool.or_eq_true, decide_eq_true_eq]
  omega
theorem run_deltas {l : List Nat} (hs : ∀ x ∈ l, sc x = true) : (runD (deltas l l.length 128 0 (basicOf l).length) (basicOf l) 128 0).1 = l :=
  deltas_run l (fun c hc => sc_lt (hs c hc)) l.length 128 0 (basicOf l).length 128 0 (by omega) rfl (Nat.le_refl _) (by simp)
theorem ofNat_back {l : List Nat} (h : ∀ x ∈ l, x < 128) : (l.map UInt8.ofNat).map UInt8.toNat = l := by
  rw [List.map_map]
  refine (List.map_congr_left (g := id) fun x hx => ?_).trans (List.map_id _)
  have := h x hx
  show (UInt8.ofNat x).toNat = x
  simp
  omega
theorem basicOf_small (l : List Nat) : ∀ x ∈ basicOf l, x < 128 := fun x hx => by simpa using (List.mem_filter.1 hx).2
theorem penc_bytes (l : List Nat) : ∀ b ∈ penc l, b.toNat < 128 := by
  intro b hb
  unfold penc at hb
  rcases List.mem_append.1 hb with hb | hb
  · rcases List.mem_append.1 hb with hb | hb
    · obtain ⟨x, hx, rfl⟩ := List.mem_map.1 hb
      have := basicOf_small l x hx
      simp; omega
    · split at hb
      · simp at hb
      · simp only [List.mem_singleton] at hb; subst hb; decide
  · exact (tells_bytes _ _ _ _ b hb).1

/-- Scalars are told there and back. -/
theorem pdec_penc {l : List Nat} (hs : ∀ x ∈ l, sc x = true) (hl : l.length ≤ 250) : pdec (penc l) = some l := by
  have hrun := run_deltas hs
  have hany : (penc l).any (fun b => decide (128 ≤ b.toNat)) = false := by
    rw [List.any_eq_false]
    intro b hb
    have := penc_bytes l b hb
    simp; omega
  unfold pdec
  rw [hany]
  simp only [Bool.false_eq_true, if_false]
  obtain ⟨T, hT⟩ : ∃ T, tells (basicOf l).length (deltas l l.length 128 0 (basicOf l).length) 72 (basicOf l).length = T := ⟨_, rfl⟩
  have hT45 : (45 : UInt8) ∉ T := by
    intro h45
    rw [← hT] at h45
    exact (tells_bytes _ _ _ _ _ h45).2 rfl
  have key : ∀ f, T.length ≤ f → decT f T (basicOf l) 128 0 72 = some l := by
    intro f hf
    have := decT_tells (basicOf l).length (deltas l l.length 128 0 (basicOf l).length) f (basicOf l) 128 0 72 (by rw [hT]; exact hf) (.inl ⟨rfl, rfl⟩) (by rw [hrun]; exact hs) (by rw [hrun]; exact hl)
    rw [hT, hrun] at this
    exact this
  by_cases hb : (basicOf l).length = 0
  · have e : penc l = T := by
      unfold penc
      rw [hT, if_pos hb, List.eq_nil_of_length_eq_zero hb]
      rfl
    rw [e, hyph_none hT45, if_neg (by omega)]
    have := key T.length (Nat.le_refl _)
    rw [List.eq_nil_of_length_eq_zero hb] at this
    exact this
  · have e : penc l = (basicOf l).map UInt8.ofNat ++ 45 :: T := by
      unfold penc
      rw [hT, if_neg hb]
      simp
    rw [e, hyph_at hT45, if_pos (by rw [List.length_map]; omega)]
    have e1 : (((basicOf l).map UInt8.ofNat).length : Int).toNat = ((basicOf l).map UInt8.ofNat).length := by omega
    rw [e1, List.take_left' rfl, ofNat_back (basicOf_small l)]
    have e2 : ((basicOf l).map UInt8.ofNat ++ 45 :: T).drop (((basicOf l).map UInt8.ofNat).length + 1) = T := by
      rw [List.drop_append, List.drop_eq_nil_of_le (by omega)]
      simp
    rw [e2]
    exact key _ (by simp; omega)

theorem lower_pre (s : List UInt8) : (s.map lower).length = s.length := by simp
theorem digits_45 {bias k w i j : Nat} {s r : List UInt8} (h : par (45 :: s) bias k w i = some (j, r)) : False := by
  unfold par at h
  rw [if_pos (by decide)] at h
  cases h
/-- A text that is decoded is encoded to what it was, but for capital letters. -/
theorem penc_pdec {s : List UInt8} {l : List Nat} (h : pdec s = some l) : penc l = small s ∧ ∀ x ∈ l, sc x = true := by
  have main : ∀ (f : Nat) (t : List UInt8) (cur : List Nat), (∀ x ∈ cur, x < 128) → decT f t cur 128 0 72 = some l →
      basicOf l = cur ∧ tells cur.length (deltas l l.length 128 0 cur.length) 72 cur.length = t.map lower ∧ ∀ x ∈ l, sc x = true := by
    intro f t cur hcur hd
    obtain ⟨ds, h1, h2, h3⟩ := tells_decT cur.length f t cur 128 0 72 l hd (.inl ⟨rfl, rfl⟩) (fun x hx => sc_small (hcur x hx))
    have hf : basicOf l = cur := by
      have := runD_filter ds cur 128 0 128 (Nat.le_refl _)
      rw [h2] at this
      rw [basicOf, this]
      exact List.filter_eq_self.2 fun x hx => by simpa using hcur x hx
    have hr := run_deltas h3
    rw [hf] at hr
    have hi : Inv cur 128 0 := ⟨fun x hx => Nat.le_of_lt (hcur x hx), fun x hx => hcur x (List.mem_of_mem_drop hx)⟩
    have := runD_inj hi _ _ (hr.trans h2.symm)
    exact ⟨hf, by rw [this, h1], h3⟩
  unfold pdec at h
  split at h
  · cases h
  · rename_i hany
    have hsm : ∀ b ∈ s, b.toNat < 128 := by
      intro b hb
      have := List.any_eq_false.1 (Bool.eq_false_iff.2 hany) b hb
      simp at this; omega
    by_cases h45 : (45 : UInt8) ∈ s
    · obtain ⟨a, b, rfl, hb⟩ := split_last h45
      rw [hyph_at hb] at h
      split at h
      · rename_i ha
        have e1 : ((a.length : Int)).toNat = a.length := by omega
        have e2 : (a ++ 45 :: b).drop (a.length + 1) = b := by
          rw [List.drop_append, List.drop_eq_nil_of_le (by omega)]
          simp
        rw [e1, List.take_left' rfl, e2] at h
        obtain ⟨g1, g2, g3⟩ := main _ _ _ (fun x hx => by
          obtain ⟨y, hy, rfl⟩ := List.mem_map.1 hx
          exact hsm y (List.mem_append_left _ hy)) h
        refine ⟨?_, g3⟩
        have e3 : ((a.length : Int) + 1).toNat = a.length + 1 := by omega
        unfold penc small
        rw [g1, g2, hyph_at hb, e3, if_neg (by rw [List.length_map]; omega), e2, List.map_map]
        have e4 : a.map (UInt8.ofNat ∘ UInt8.toNat) = a := (List.map_congr_left (g := id) fun x _ => by simp).trans (List.map_id _)
        have e5 : (a ++ 45 :: b).take (a.length + 1) = a ++ [45] := by
          rw [List.take_append, List.take_of_length_le (by omega)]
          simp
        rw [e4, e5]
      · rename_i ha
        exfalso
        obtain rfl : a = [] := List.eq_nil_of_length_eq_zero (by omega)
        simp only [List.nil_append, List.length_cons] at h
        unfold decT at h
        split at h
        · cases h
        · rename_i hp
          exact digits_45 hp
    · rw [hyph_none h45, if_neg (by omega)] at h
      obtain ⟨g1, g2, g3⟩ := main _ _ _ (fun x hx => by cases hx) h
      refine ⟨?_, g3⟩
      unfold penc small
      rw [g1, g2, hyph_none h45]
      simp
/-- Code points below 128 alone are told by themselves, and a hyphen. -/
theorem penc_plain {l : List Nat} (h : ∀ x ∈ l, x < 128) : penc l = l.map UInt8.ofNat ++ (if l.length = 0 then [] else [45]) := by
  have hb : basicOf l = l := List.filter_eq_self.2 fun x hx => by simpa using h x hx
  unfold penc
  rw [hb]
  have : deltas l l.length 128 0 l.length = [] := by
    cases hl : l.length with
    | zero => rfl
    | succ k => unfold deltas; rw [if_neg (by omega)]
  rw [this]
  simp [tells]
end Go.Proofs.YtfaieldafoeaiaaDoor

/-
  The document's small functions of layer 4 (Threshold, digit, value, Adapt, tell, least, hyphen, weighted), by their contracts.
-/
namespace Go.Proofs.YtfaieldafoeaiaaDoor
open Go.RowKit

theorem adaptLoop_le : ∀ (d k : Nat), adaptLoop d k ≤ d + k + 36 := by
  intro d
  induction d using Nat.strongRecOn with
  | _ d ih =>
    intro k
    rw [adaptLoop]
    split
    · have := ih (d / 35) (by omega) (k + 36)
      omega
    · have : 36 * d / (d + 38) ≤ 36 := by
        apply Nat.div_le_of_le_mul
        rw [Nat.mul_comm]
        exact Nat.mul_le_mul_right _ (by omega)
      omega
theorem adapt_le (delta many : Nat) (once : Bool) : adapt delta many once ≤ delta + 36 := by
  unfold adapt
  have h1 := adaptLoop_le ((if once then delta / 700 else delta / 2) + (if once then delta / 700 else delta / 2) / many) 0
  have h2 : (if once then delta / 700 else delta / 2) ≤ delta / 2 := by split <;> omega
  have h3 : (if once then delta / 700 else delta / 2) / many ≤ (if once then delta / 700 else delta / 2) := Nat.div_le_self _ _
  omega

theorem adaptLoop_more {d k : Nat} (h : 455 < d) : adaptLoop d k = adaptLoop (d / 35) (k + 36) := by rw [adaptLoop, dif_pos h]
theorem adaptLoop_end {d k : Nat} (h : ¬ 455 < d) : adaptLoop d k = k + 36 * d / (d + 38) := by rw [adaptLoop, dif_neg h]

end Go.Proofs.YtfaieldafoeaiaaDoor

/-
  'append' of runes onto a row of the call's own, from any runes.
-/
namespace Go.Proofs.YtfaieldafoeaiaaDoor
open Go.RowKit

/-- A slice of runes that lies above a base: its own row. -/
def RowN (B : Nat) (w : World) (v : Value) (l : List Int) : Prop := w.ownsRow B 21 1 v l.length (l.map (Value.int .i32))
theorem RowN.below {B : Nat} {w w' : World} {v : Value} {l : List Int} (h : RowN B w v l) (hb : Below w.heap.size w w') : RowN B w' v l := own_below h hb
theorem rowN_new (w : World) : RowN w.heap.size (w.alloc (.cells #[] 21)) (.slice (some ⟨w.heap.size, 0, none⟩) 0 0) [] := by
  refine ⟨rfl, .inr ⟨w.heap.size, 0, #[], rfl, Nat.le_refl _, ?_, Nat.le_refl _, by simp [maxLen], rfl, rfl⟩⟩
  exact heap_alloc_new w _
/-- 'append(s, x...)', s a row of the call's own, x any runes. -/
theorem append_from {ops : Array Oper} {rest : List Oper} {o : Oper} {a : Act} {Q : Exit → Act → World → Prop} {w : World} (hgd : o.guard = none) (s x : Operand)
    (ho : o.op = .call { callee := .builtin .append, args := #[s, x], argTypes := #[22, 22] })
    (B : Nat) (v : Value) (l : List Int) (X : Option Addr) (m c : Nat) (lx : List Int) (hs : a.eval s = v) (hx : a.eval x = .slice X m c) (h1 : RowN B w v l) (h2 : Runes w X lx) (hm : m = lx.length) (hc : X = none → c = 0)
    (hl : l.length + lx.length ≤ 4000) (hB : B ≤ w.heap.size)
    (h : ∀ v' w', RowN B w' v' (l ++ lx) → Below B w w' → wpList Tryd.prog ops Q rest (a.put o.dst v') w') : wpList Tryd.prog ops Q (o :: rest) a w := by
  obtain ⟨i0, hi, hz0, hz1, hz2⟩ := info_parts Tryd.infoR
  subst hm
  cases X with
  | none =>
    cases lx with
    | cons y lx => obtain ⟨b, off, e, _⟩ := h2 0 y rfl; cases e
    | nil =>
      rw [hc rfl] at hx
      refine wpList_append_own_none hgd s x _ ho B 21 i0 1 Tryd.underlying22 hi v _ _ hs h1 hx (h v w (by rw [List.append_nil]; exact h1) (Below.refl _ _))
  | some ad =>
    refine wpList_append_own w hgd s x _ ho B 21 i0 _ 1 4 Tryd.underlying22 hi hz0 hz1 hz2 rfl (by decide) v _ _ hs h1 ad lx.length c (lx.map (Value.int .i32)) hx (by simp) (fun j u hu => ?_) (fun u hu => ?_) (by simp only [maxLen]; omega) (by omega) hB (fun v' w' hown hg _ => h v' w' ?_ ?_)
    · rw [List.getElem?_map] at hu
      obtain ⟨y, hy, rfl⟩ := Option.map_eq_some_iff.1 hu
      obtain ⟨b, off, e, _, hcell⟩ := h2 j y hy
      cases e
      rw [add_at, hcell]
    · obtain ⟨y, _, rfl⟩ := List.mem_map.1 hu
      rfl
    · show w'.ownsRow B 21 1 v' _ _
      rw [List.length_append, List.map_append]; exact hown
    · exact (Below.refl _ _).grown hg hB (own_ge h1)
theorem Runes.take {w : World} {A : Option Addr} {l : List Int} (h : Runes w A l) (k : Nat) : Runes w A (l.take k) := by
  intro i c hc
  refine h i c ?_
  rw [List.getElem?_take] at hc
  split at hc
  · exact hc
  · cases hc
theorem Runes.drop {w : World} {b off : Nat} {l : List Int} (h : Runes w (some ⟨b, off, none⟩) l) (k : Nat) : Runes w (some ⟨b, off + k, none⟩) (l.drop k) := by
  intro i c hc
  rw [List.getElem?_drop] at hc
  obtain ⟨b', off', e, hlt, hcell⟩ := h (k + i) c hc
  cases e
  exact ⟨b, off + k, rfl, hlt, by rw [Nat.add_assoc]; exact hcell⟩
theorem Runes.tail {w : World} {b off cap p : Nat} {l : List Int} (h : Runes w (some ⟨b, off, none⟩) l) (hc : l.length ≤ cap) : Runes w (if cap = p then some ⟨b, off, none⟩ else some ⟨b, off + p, none⟩) (l.drop p) := by
  split
  · intro i c hi
    rw [List.drop_eq_nil_of_le (by omega)] at hi
    simp at hi
  · exact h.drop p
theorem Runes.nil_ {w : World} {X : Option Addr} : Runes w X [] := fun i c hc => by simp at hc
theorem runes_one (w : World) (c : Int) : Runes (w.alloc (.cells #[.int .i32 c] 21)) (some ⟨w.heap.size, 0, none⟩) [c] := by
  intro i x hx
  obtain ⟨rfl, rfl⟩ : i = 0 ∧ x = c := by
    cases i with
    | zero => simp at hx; exact ⟨rfl, hx.symm⟩
    | succ i => simp at hx
  exact ⟨_, _, rfl, by simp, by simp⟩
end Go.Proofs.YtfaieldafoeaiaaDoor

/-
  The program's small functions of layer 4: isScalar, threshold, valueOf, adapt, Compare.
-/
namespace Go.Proofs.YtfaieldafoeaiaaDoor
open Go.RowKit

set_option maxHeartbeats 400000 in
theorem qscalar_any (n : Int) (w : World) :
    Calls Tryd.prog 48 #[.int .i64 n] w fun e w' => e = .returned (.bool (scal n)) ∧ w = w' := by
  go_enter Tryd.func48, Tryd.ntmps48
  go_wp2
  all_goals
    go_ret
    refine ⟨ret_bool ?_, rfl⟩
    rw [Bool.eq_iff_iff, scal_iff]
    simp
    try omega

theorem qthr_any (k b : Nat) (x y : Int) (w : World) (hx : x = (k : Int)) (hy : y = (b : Int)) (_ : k ≤ 1125899906842624) (hb : b ≤ 1125899906842624) :
    Calls Tryd.prog 68 #[.int .i64 x, .int .i64 y] w fun e w' => e = .returned (.int .i64 (thr k b : Int)) ∧ w = w' := by
  subst hx; subst hy
  go_enter Tryd.func68, Tryd.ntmps68
  go_wp2
  all_goals
    go_ret
    refine ⟨ret_int ?_, rfl⟩
    unfold thr
    repeat' split
    all_goals omega

/-- A digit's value, and whether it is one. -/
def dvalN (c : Int) : Int := if 0 ≤ dval c then dval c else 0
set_option maxHeartbeats 400000 in
theorem qvalue_any (c : UInt8) (w : World) :
    Calls Tryd.prog 67 #[.int .u8 (c.toNat : Int)] w fun e w' => e = .returned (.tuple #[.int .i64 (dvalN c.toNat), .bool (decide (0 ≤ dval c.toNat))]) ∧ w = w' := by
  have hu := c.toNat_lt
  have key : ∀ (v : Int) (t : Bool), (dval c.toNat = v ∧ 0 ≤ v ∧ t = true) ∨ (dval c.toNat < 0 ∧ v = 0 ∧ t = false) → Ending.returned (.tuple #[.int .i64 v, .bool t]) = .returned (.tuple #[.int .i64 (dvalN c.toNat), .bool (decide (0 ≤ dval c.toNat))]) := by
    intro v t h
    unfold dvalN
    rcases h with ⟨h1, h2, rfl⟩ | ⟨h1, rfl, rfl⟩
    · rw [h1, if_pos h2, decide_eq_true h2]
    · rw [if_neg (by omega), decide_eq_false (by omega)]
  go_enter Tryd.func67, Tryd.ntmps67
  go_wp2
  all_goals
    go_ret2
    refine ⟨key _ _ ?_, rfl⟩
    unfold dval
    repeat' split
    all_goals (first | (left; refine ⟨?_, ?_, rfl⟩ <;> omega) | (right; refine ⟨?_, ?_, rfl⟩ <;> omega))

set_option maxHeartbeats 400000 in
theorem qadapt_any (delta many : Nat) (once : Bool) (x y : Int) (w : World) (hx : x = (delta : Int)) (hy : y = (many : Int)) (hd : delta ≤ 2199023255552) (hm0 : 1 ≤ many) (hm1 : many ≤ 2199023255552) :
    Calls Tryd.prog 55 #[.int .i64 x, .int .i64 y, .bool once] w fun e w' => e = .returned (.int .i64 (adapt delta many once : Int)) ∧ w = w' := by
  subst hx; subst hy
  obtain ⟨d0, hd0⟩ : ∃ d0, (if once then delta / 700 else delta / 2) = d0 := ⟨_, rfl⟩
  have hd1 : d0 ≤ delta := by rw [← hd0]; split <;> omega
  obtain ⟨q, hqe⟩ : ∃ q, d0 / many = q := ⟨_, rfl⟩
  have hq : q ≤ d0 := by rw [← hqe]; exact Nat.div_le_self _ _
  have HA : Hid (adaptLoop (d0 + q) 0 = adapt delta many once) := by
    show adaptLoop (d0 + q) 0 = adapt delta many once
    unfold adapt; rw [hd0, hqe]
  have hdiv : (d0 : Int) / (many : Int) = (q : Int) := by
    rw [← hqe]; exact (Int.natCast_ediv _ _).symm
  clear hqe
  have hh : (if once then (delta : Int) / 700 else (delta : Int) / 2) = (d0 : Int) := by
    rw [← hd0]; split <;> omega
  clear hd0
  cases once
  all_goals
    simp only [if_true, if_false, Bool.false_eq_true] at hh
    go_enter Tryd.func55, Tryd.ntmps55
    go_wp2
    go_loopw [0, 7] (fun a b wr => ∃ d k : Nat, a = .int .i64 d ∧ b = .int .i64 k ∧ wr = w ∧ adaptLoop d k = adapt delta many _ ∧ d + k ≤ 4398046511104) (fun a _ _ => (intOf a).toNat)
    case atStart => exact ⟨d0 + q, 0, by go_num, rfl, rfl, HA.out, by omega⟩
    case round =>
      obtain ⟨d, k, rfl, rfl, rfl, hl, hb⟩ := hrel
      have HL := Lib.hid hl
      clear hl hdiv hh
      by_cases h : 455 < d
      · have HM := Lib.hid (adaptLoop_more (k := k) h)
        go_wp2
        go_roundw
        case rel => exact ⟨d / 35, k + 36, by go_num, by go_num, by first | rfl | trivial, by rw [← HM.out]; exact HL.out, by omega⟩
        case measure => simp [intOf]; omega
      · have HM := Lib.hid (adaptLoop_end (k := k) h)
        obtain ⟨r, hr⟩ : ∃ r, 36 * d / (d + 38) = r := ⟨_, rfl⟩
        have hr0 : r ≤ 36 := by
          rw [← hr]
          apply Nat.div_le_of_le_mul
          rw [Nat.mul_comm]
          exact Nat.mul_le_mul_right _ (by omega)
        have hri : (36 * (d : Int)) / ((d : Int) + 38) = (r : Int) := by
          rw [← hr]
          simp
        rw [hr] at HM
        clear hr
        go_wp2
        go_ret
        exact ⟨ret_int (by rw [← HL.out, HM.out]; omega), rfl⟩

/-- Compare. -/
def cmpI (a b : Int) : Int := if a < b then -1 else if b < a then 1 else 0
set_option maxHeartbeats 400000 in
theorem qnan_any (a : Int) (w : World) :
    Calls Tryd.prog 71 #[.int .i32 a] w fun e w' => e = .returned (.bool false) ∧ w = w' := by
  go_enter Tryd.func71, Tryd.ntmps71
  go_wp2
  all_goals
    go_ret
    refine ⟨ret_bool (by simp), rfl⟩
set_option maxHeartbeats 400000 in
theorem qcmp_any (a b : Int) (w : World) :
    Calls Tryd.prog 52 #[.int .i32 a, .int .i32 b] w fun e w' => e = .returned (.int .i64 (cmpI a b)) ∧ w = w' := by
  go_enter Tryd.func52, Tryd.ntmps52
  go_wp2_with (first
    | (go_at_call 71; refine (qnan_any _ _).mono ?_; rintro e w' ⟨rfl, rfl⟩))
  all_goals
    go_ret
    refine ⟨ret_int ?_, rfl⟩
    unfold cmpI
    repeat' split
    all_goals omega

set_option maxHeartbeats 400000 in
/-- The builder's length. -/
theorem qlen_any (B b : Nat) (l : List UInt8) (w : World) (h : Lib.IsBuilder 40 5 B b (Lib.byteCells l) w) :
    Calls Tryd.prog 16 #[.pointer (some ⟨b, 0, none⟩)] w fun e w' => e = .returned (.int .i64 l.length) ∧ w = w' := by
  obtain ⟨A, n, c, c1, hn⟩ : ∃ A n c, w.cell? ⟨b, 1, none⟩ = some (.slice A n c) ∧ n = l.length := by
    have : ∀ p, Lib.BuilderAt 40 5 B b p (Lib.byteCells l) w → ∃ A n c, w.cell? ⟨b, 1, none⟩ = some (.slice A n c) ∧ n = l.length := by
      rintro p ⟨_, v, hbk, hown, _⟩
      have e : w.cell? ⟨b, 1, none⟩ = some v := by rw [Lib.cell_of_heap hbk]; rfl
      rcases hown.2 with ⟨hv, h0⟩ | ⟨g, cap, cur, hv, _⟩
      · exact ⟨_, _, _, by rw [e, hv], by simpa [Lib.byteCells] using h0.symm⟩
      · exact ⟨_, _, _, by rw [e, hv], by simp [Lib.byteCells]⟩
    rcases h with h | h
    · exact this _ h
    · exact this _ h
  subst hn
  go_enter Tryd.func16, Tryd.ntmps16
  go_wp2
  go_ret
  exact ⟨rfl, rfl⟩
end Go.Proofs.YtfaieldafoeaiaaDoor

/-
  strings.Builder: copyCheck, WriteByte and WriteString by a walk of their own, String by the shelf's contract.
-/
namespace Go.Proofs.YtfaieldafoeaiaaDoor
open Go.Shelf Go.RowKit

def lays169_ren : Go.Shelf.Ren := ⟨fun | 169 => 17 | n => n, fun | 70 => 37 | 9 => 9 | 0 => 0 | 72 => 40 | 37 => 38 | 127 => 69 | 3 => 3 | 5 => 5 | n => n, fun | n => n⟩
theorem lays169 : Go.Proofs.Lays.n169 Tryd.prog lays169_ren := {
  mixed := by kernel_rfl
  f169 := Tryd.func17.trans (congrArg some (by kernel_rfl))
  t0 := Tryd.underlying0
  a0 := Tryd.isAgg0
  z0 := Tryd.sizeOf0
  v0 := Tryd.zeroValue0
  t3 := Tryd.underlying3
  a3 := Tryd.isAgg3
  z3 := Tryd.sizeOf3
  v3 := Tryd.zeroValue3
  t9 := Tryd.underlying9
  a9 := Tryd.isAgg9
  z9 := Tryd.sizeOf9
  v9 := Tryd.zeroValue9
  t37 := Tryd.underlying38
  a37 := Tryd.isAgg38
  z37 := Tryd.sizeOf38
  v37 := Tryd.zeroValue38
  t70 := Tryd.underlying37
  a70 := Tryd.isAgg37
  z70 := Tryd.sizeOf37
  v70 := Tryd.zeroValue37
  t72 := Tryd.underlying40
  a72 := Tryd.isAgg40
  z72 := Tryd.sizeOf40
  v72 := Tryd.zeroValue40
  t127 := Tryd.underlying69
  a127 := Tryd.isAgg69
  z127 := Tryd.sizeOf69
  v127 := Tryd.zeroValue69 }
theorem bldExtra : Builder.Extra Tryd.prog lays169_ren := {
  sizeBuilder := by kernel_rfl
  liesBuilder := by kernel_rfl
  t5 := Tryd.underlying5
  a5 := Tryd.isAgg5
  z5 := Tryd.sizeOf5
  v5 := Tryd.zeroValue5
  infoByte := by kernel_rfl
  cellsByte := by kernel_rfl
  sizeByte := by kernel_rfl
  neB5 := by decide }
/-- String: whatever the builder holds. -/
theorem bld_string (B b : Nat) (l : List UInt8) (w : World) (h : Lib.IsBuilder 40 5 B b (Lib.byteCells l) w) (hBw : B ≤ w.heap.size) :
    Calls Tryd.prog 17 #[.pointer (some ⟨b, 0, none⟩)] w fun e w' => e = .returned (.string ⟨l.toArray⟩) ∧ Below B w w' :=
  Any.Builder_String_any lays169 bldExtra B b l w h hBw

theorem grown_of_below {w w' : World} (h : Below w.heap.size w w') : w.grownBy w' none := ⟨h.os, h.tape, h.output, h.size, fun k hk _ => h.block k hk⟩
theorem owns_below {w w' : World} {base : Nat} {e : TypeId} {size : Nat} {v : Value} {n : Nat} {xs : List Value} (h : w.ownsRow base e size v n xs) (hb : Below w.heap.size w w') : w'.ownsRow base e size v n xs := by
  refine h.kept (grown_of_below hb) ?_
  cases hv : v.ownBlock with
  | none => exact .inl rfl
  | some k => exact .inr (by simp)
theorem builderAt_below {T e : TypeId} {B b : Nat} {p : Value} {bs : List Value} {w w' : World} (h : Lib.BuilderAt T e B b p bs w) (hb : Below w.heap.size w w') : Lib.BuilderAt T e B b p bs w' := by
  obtain ⟨hB, v, hbk, hown, hne⟩ := h
  exact ⟨hB, v, (hb.block b (Array.getElem?_eq_some_iff.1 hbk).1).trans hbk, owns_below hown hb, hne⟩
theorem isBuilder_below {T e : TypeId} {B b : Nat} {bs : List Value} {w w' : World} (h : Lib.IsBuilder T e B b bs w) (hb : Below w.heap.size w w') : Lib.IsBuilder T e B b bs w' :=
  h.elim (fun x => .inl (builderAt_below x hb)) (fun x => .inr (builderAt_below x hb))

theorem Tryd.sizeBuilder : (Tryd.prog.info? 40).map (·.size) = some 2 := by kernel_rfl

set_option maxHeartbeats 1000000 in
set_option maxRecDepth 100000 in
theorem copyCheck_used (b : Nat) (w : World) (h0 : w.cell? ⟨b, 0, none⟩ = some (.pointer (some ⟨b, 0, none⟩))) :
    Calls Tryd.prog 37 #[.pointer (some ⟨b, 0, none⟩)] w fun e w' => e = .returned (.tuple #[]) ∧ w = w' := by
  obtain ⟨j, hj, _⟩ := Option.map_eq_some_iff.1 Tryd.sizeBuilder
  go_enter Tryd.func37, Tryd.ntmps37
  go_wp2
  rw [Lib.run_neq_ptr_same w _ Tryd.underlying37 hj]
  go_wp2
  go_end0
  exact ⟨rfl, rfl⟩

set_option maxHeartbeats 1000000 in
set_option maxRecDepth 100000 in
theorem copyCheck_fresh (b : Nat) (w : World) (h0 : w.cell? ⟨b, 0, none⟩ = some (.pointer none)) (hsh : w.shape? b = some (40, 2)) (hfz : w.frozen? ⟨b, 0, none⟩ = false) :
    Calls Tryd.prog 37 #[.pointer (some ⟨b, 0, none⟩)] w fun e w' => e = .returned (.tuple #[]) ∧ w.setCell ⟨b, 0, none⟩ (.pointer (some ⟨b, 0, none⟩)) = w' := by
  obtain ⟨j, hj, hjs⟩ := Option.map_eq_some_iff.1 Tryd.sizeBuilder
  go_enter Tryd.func37, Tryd.ntmps37
  go_wp2
  rw [Lib.run_to_unsafe w ⟨b, 0, none⟩ Tryd.underlying37 Tryd.underlying104 hj (by rw [hjs]; decide) hsh (Nat.zero_lt_succ 1)]
  simp only [Result.andThen]
  rw [Oper.upon_value]
  go_wp2
  rw [run_callFunc_extern Tryd.func58 (by kernel_rfl) (by kernel_rfl) (by kernel_rfl) (e := Extern.AbiNoEscape.same) (by kernel_rfl)]
  rw [Lib.run_noEscape]
  simp only [Result.andThen]
  rw [Oper.upon_value]
  go_wp2
  rw [Lib.run_from_unsafe w ⟨b, 0, none⟩ Tryd.underlying104 Tryd.underlying37 hj hsh (by kernel_rfl)]
  simp only [Result.andThen]
  rw [Oper.upon_value]
  go_wp2
  go_end0
  exact ⟨rfl, rfl⟩
theorem copyCheck_any (B b : Nat) (bs : List Value) (w : World) (h : Lib.IsBuilder 40 5 B b bs w) :
    Calls Tryd.prog 37 #[.pointer (some ⟨b, 0, none⟩)] w fun e w' => e = .returned (.tuple #[]) ∧ (Lib.BuilderAt 40 5 B b (.pointer (some ⟨b, 0, none⟩)) bs w' ∧ Below B w w') := by
  rcases h with h | h
  · refine (copyCheck_fresh b w h.cell0 h.shape h.frozen0).mono ?_
    rintro e w' ⟨rfl, rfl⟩
    exact ⟨rfl, h.used _, (Below.refl B w).setCell (p := ⟨b, 0, none⟩) h.1 _⟩
  · refine (copyCheck_used b w h.cell0).mono ?_
    rintro e w' ⟨rfl, rfl⟩
    exact ⟨rfl, h, Below.refl B _⟩

set_option maxHeartbeats 1000000 in
set_option maxRecDepth 100000 in
/-- WriteString. -/
theorem bld_write (B b : Nat) (bs : List Value) (s : ByteArray) (w : World) (h : Lib.IsBuilder 40 5 B b bs w) (hlen : bs.length + s.size ≤ 1000000) (hBw : B ≤ w.heap.size) :
    Calls Tryd.prog 15 #[.pointer (some ⟨b, 0, none⟩), .string s] w fun e w' => e = .returned (.tuple #[.int .i64 s.size, .nilIface]) ∧ (Lib.IsBuilder 40 5 B b (bs ++ Lib.strCells s) w' ∧ Below B w w') := by
  obtain ⟨i0, hi, hz0, hz1, hz2⟩ := info_parts bldExtra.infoByte
  go_enter Tryd.func15, Tryd.ntmps15
  go_wp2_with (go_at_call 37; refine (copyCheck_any B b bs _ h).mono ?_)
  rintro e w1 ⟨rfl, h1, hb1⟩
  obtain ⟨hB, v, hbk, hown, hne⟩ := h1
  have c0 : w1.cell? ⟨b, 0, none⟩ = some (.pointer (some ⟨b, 0, none⟩)) := by rw [Lib.cell_of_heap hbk]; rfl
  have c1 : w1.cell? ⟨b, 1, none⟩ = some v := by rw [Lib.cell_of_heap hbk]; rfl
  go_wp2_with (at_builtin; refine Lib.wpList_append_own_string _ rfl _ _ 38 9 rfl B 5 i0 Tryd.underlying38 Tryd.underlying9 hi hz0 hz1 hz2 _ _ _ rfl hown s rfl ?c3 ?c4 ?c5 ?_)
  case c3 => unfold maxLen; omega
  case c4 => omega
  case c5 => have := hb1.size; omega
  intro v' w2 hown' hgrow _
  have hlt : b < w1.heap.size := by
    rcases Nat.lt_or_ge b w1.heap.size with h' | h'
    · exact h'
    · simp [Array.getElem?_eq_none h'] at hbk
  have hb2 : w2.heap[b]? = some (.cells #[.pointer (some ⟨b, 0, none⟩), v] 40 (0, 0)) := by
    rw [hgrow.block b hlt (fun e => hne e.symm)]
    exact hbk
  have d0 : w2.cell? ⟨b, 0, none⟩ = some (.pointer (some ⟨b, 0, none⟩)) := by rw [Lib.cell_of_heap hb2]; rfl
  have d1 : w2.cell? ⟨b, 1, none⟩ = some v := by rw [Lib.cell_of_heap hb2]; rfl
  have f1 : w2.frozen? ⟨b, 1, none⟩ = false := Lib.frozen_of_heap hb2 1
  obtain ⟨ao, n', cap, rfl⟩ : ∃ ao n' cap, v' = .slice ao n' cap := by
    rcases hown'.2 with ⟨hv, _⟩ | ⟨g, cap, cur, hv, _⟩
    · exact ⟨_, _, _, hv⟩
    · exact ⟨_, _, _, hv⟩
  go_wp2
  go_ret2
  refine ⟨rfl, .inr ?_, ?_⟩
  · exact Lib.BuilderAt.put (T := 40) (e := 5) hB hb2 (bs' := bs ++ Lib.strCells s) (by simpa [Lib.strCells_length] using hown') (by decide)
  · exact (hb1.grown hgrow (by have := hb1.size; omega) (fun k hk => (hown.lt k hk).1)).setCell (p := ⟨b, 1, none⟩) hB _

/-- A builder of the call's own, with its bytes. -/
def Bld (B b : Nat) (l : List UInt8) (w : World) : Prop := Lib.IsBuilder 40 5 B b (Lib.byteCells l) w

set_option maxHeartbeats 1000000 in
set_option maxRecDepth 100000 in
/-- WriteByte. -/
theorem bld_byte0 (B b : Nat) (bs : List Value) (c : Int) (w : World) (h : Lib.IsBuilder 40 5 B b bs w) (hlen : bs.length + 1 ≤ 1000000) (hBw : B ≤ w.heap.size) :
    Calls Tryd.prog 14 #[.pointer (some ⟨b, 0, none⟩), .int .u8 c] w fun e w' => e = .returned .nilIface ∧ (Lib.IsBuilder 40 5 B b (bs ++ [.int .u8 c]) w' ∧ Below B w w') := by
  obtain ⟨i0, hi, hz0, hz1, hz2⟩ := info_parts bldExtra.infoByte
  go_enter Tryd.func14, Tryd.ntmps14
  go_wp2_with (go_at_call 37; refine (copyCheck_any B b bs _ h).mono ?_)
  rintro e w1 ⟨rfl, h1, hb1⟩
  obtain ⟨hB, v, hbk, hown, hne⟩ := h1
  have c0 : w1.cell? ⟨b, 0, none⟩ = some (.pointer (some ⟨b, 0, none⟩)) := by rw [Lib.cell_of_heap hbk]; rfl
  have c1 : w1.cell? ⟨b, 1, none⟩ = some v := by rw [Lib.cell_of_heap hbk]; rfl
  go_wp2_with (at_builtin; refine wpList_append_own _ rfl _ _ 38 rfl B 5 i0 (.int .u8 0) 1 1 Tryd.underlying38 hi hz0 hz1 hz2 rfl (by decide) _ _ _ rfl (hown.alloc _) ⟨w1.heap.size, 0, none⟩ 1 1 [.int .u8 c] rfl rfl ?c1 ?c2 ?c3 ?c4 ?c5 ?_)
  case c1 =>
    intro j u hj
    match j, hj with
    | 0, hj => simp at hj; subst hj; simp [Addr.add]
  case c2 => intro u hu; simp at hu; subst hu; rfl
  case c3 => unfold maxLen; omega
  case c4 => omega
  case c5 => have := hb1.size; simp; omega
  intro v' w2 hown' hgrow _
  have hlt : b < w1.heap.size := by
    rcases Nat.lt_or_ge b w1.heap.size with h' | h'
    · exact h'
    · simp [Array.getElem?_eq_none h'] at hbk
  have hb2 : w2.heap[b]? = some (.cells #[.pointer (some ⟨b, 0, none⟩), v] 40 (0, 0)) := by
    rw [hgrow.block b (by simp; omega) (fun e => hne e.symm), Lib.alloc_old w1 _ b hlt]
    exact hbk
  have d0 : w2.cell? ⟨b, 0, none⟩ = some (.pointer (some ⟨b, 0, none⟩)) := by rw [Lib.cell_of_heap hb2]; rfl
  have d1 : w2.cell? ⟨b, 1, none⟩ = some v := by rw [Lib.cell_of_heap hb2]; rfl
  have f1 : w2.frozen? ⟨b, 1, none⟩ = false := Lib.frozen_of_heap hb2 1
  obtain ⟨g, cap, rfl⟩ : ∃ g cap, v' = .slice (some ⟨g, 0, none⟩) (bs.length + 1) cap := by
    rcases hown'.2 with ⟨_, h0⟩ | ⟨g, cap, cur, hv, _⟩
    · omega
    · exact ⟨g, cap, hv⟩
  go_wp2
  go_ret
  refine ⟨rfl, .inr ?_, ?_⟩
  · exact Lib.BuilderAt.put (T := 40) (e := 5) hB hb2 (bs' := bs ++ [.int .u8 c]) (by simpa using hown') (by decide)
  · exact ((hb1.alloc (by have := hb1.size; omega) _).grown hgrow (by have := hb1.size; simp; omega) (fun k hk => (hown.lt k hk).1)).setCell (p := ⟨b, 1, none⟩) hB _

theorem byteCells_append (a b : List UInt8) : Lib.byteCells (a ++ b) = Lib.byteCells a ++ Lib.byteCells b := by simp [Lib.byteCells]
theorem byteCells_length (a : List UInt8) : (Lib.byteCells a).length = a.length := by simp [Lib.byteCells]
/-- WriteByte, of bytes. -/
theorem bld_byte (B b : Nat) (l : List UInt8) (c : UInt8) (x : Int) (w : World) (h : Bld B b l w) (hx : x = (c.toNat : Int)) (hlen : l.length + 1 ≤ 1000000) (hBw : B ≤ w.heap.size) :
    Calls Tryd.prog 14 #[.pointer (some ⟨b, 0, none⟩), .int .u8 x] w fun e w' => e = .returned .nilIface ∧ (Bld B b (l ++ [c]) w' ∧ Below B w w') := by
  subst hx
  refine (bld_byte0 B b (Lib.byteCells l) c.toNat w h (by rw [byteCells_length]; exact hlen) hBw).mono ?_
  rintro e w' ⟨rfl, h1, h2⟩
  exact ⟨rfl, by unfold Bld; rw [byteCells_append]; exact h1, h2⟩
/-- WriteString, of bytes. -/
theorem bld_text (B b : Nat) (l : List UInt8) (s : ByteArray) (w : World) (h : Bld B b l w) (hlen : l.length + s.size ≤ 1000000) (hBw : B ≤ w.heap.size) :
    Calls Tryd.prog 15 #[.pointer (some ⟨b, 0, none⟩), .string s] w fun e w' => e = .returned (.tuple #[.int .i64 s.size, .nilIface]) ∧ (Bld B b (l ++ s.data.toList) w' ∧ Below B w w') := by
  refine (bld_write B b (Lib.byteCells l) s w h (by rw [byteCells_length]; exact hlen) hBw).mono ?_
  rintro e w' ⟨rfl, h1, h2⟩
  exact ⟨rfl, by unfold Bld; rw [byteCells_append]; exact h1, h2⟩
theorem Bld.below {B b : Nat} {l : List UInt8} {w w' : World} (h : Bld B b l w) (hb : Below w.heap.size w w') : Bld B b l w' := isBuilder_below h hb
/-- String. -/
theorem bld_done (B b : Nat) (l : List UInt8) (w : World) (h : Bld B b l w) (hBw : B ≤ w.heap.size) :
    Calls Tryd.prog 17 #[.pointer (some ⟨b, 0, none⟩)] w fun e w' => e = .returned (.string ⟨l.toArray⟩) ∧ Below B w w' :=
  bld_string B b l w h hBw
end Go.Proofs.YtfaieldafoeaiaaDoor

/-
  slices.ContainsFunc at the program's closure (is one of these no scalar?), and tell.
-/
namespace Go.Proofs.YtfaieldafoeaiaaDoor
open Go.RowKit

theorem q1_any (c : Int) (w : World) (h0 : -2147483648 ≤ c) (h1 : c < 2147483648) :
    Calls Tryd.prog 47 #[.int .i32 c] w fun e w' => e = .returned (.bool (!(scal c))) ∧ w = w' := by
  go_enter Tryd.func47, Tryd.ntmps47
  go_wp2_with (first
    | (go_at_call 48; refine (qscalar_any _ _).mono ?_; rintro e w' ⟨rfl, rfl⟩))
  go_ret
  exact ⟨rfl, rfl⟩

/-- The place of the first one that is no scalar; -1. -/
def badAt (l : List Int) : Int := if (l.findIdx fun c => !(scal c)) < l.length then ((l.findIdx fun c => !(scal c) : Nat) : Int) else -1
theorem badAt_here {l : List Int} {k : Nat} (h : k < l.length) (hb : scal l[k] = false) (hp : ∀ c ∈ l.take k, scal c = true) : badAt l = k := by
  have : (l.findIdx fun c => !(scal c)) = k := by
    rw [List.findIdx_eq h]
    refine ⟨by simp [hb], fun j hj => ?_⟩
    have := hp l[j] (by rw [List.mem_take_iff_getElem]; exact ⟨j, by omega, rfl⟩)
    simp [this]
  unfold badAt
  rw [this, if_pos h]
theorem badAt_none {l : List Int} (hp : ∀ c ∈ l, scal c = true) : badAt l = -1 := by
  have : (l.findIdx fun c => !(scal c)) = l.length := by
    rw [List.findIdx_eq_length]
    intro c hc
    simp [hp c hc]
  unfold badAt
  rw [this, if_neg (by omega)]
theorem take_snoc {α : Type} {l : List α} {k : Nat} (h : k < l.length) {p : α → Prop} (h1 : ∀ c ∈ l.take k, p c) (h2 : p l[k]) : ∀ c ∈ l.take (k + 1), p c := by
  intro c hc
  rw [List.take_succ_eq_append_getElem h] at hc
  rcases List.mem_append.1 hc with hc | hc
  · exact h1 c hc
  · rw [List.mem_singleton] at hc; subst hc; exact h2

set_option maxHeartbeats 400000 in
theorem qindex_any (A : Option Addr) (l : List Int) (cap : Nat) (w : World) (h : Runes w A l) (hr : ∀ c ∈ l, -2147483648 ≤ c ∧ c < 2147483648) (hl : l.length ≤ 100000) :
    Calls Tryd.prog 43 #[.slice A l.length cap, .func (.func 47) #[] #[]] w fun e w' => e = .returned (.int .i64 (badAt l)) ∧ w = w' := by
  go_enter Tryd.func43, Tryd.ntmps43
  go_wp2
  go_loopw [8] (fun i wr => ∃ k : Nat, k ≤ l.length ∧ i = .int .i64 k ∧ wr = w ∧ ∀ c ∈ l.take k, scal c = true) (fun i _ => l.length - (intOf i).toNat)
  case atStart => exact ⟨0, Nat.zero_le _, rfl, rfl, by simp⟩
  case round =>
    obtain ⟨k, hk, rfl, hw, hp⟩ := hrel
    have := hw.symm; subst this
    have HP := Lib.hid hp
    clear hp hw
    by_cases hlt : k < l.length
    · obtain ⟨b, off, rfl, _, hc⟩ := h k l[k] (List.getElem?_eq_getElem hlt)
      have hr' := hr l[k] (List.getElem_mem hlt)
      clear h hr
      obtain ⟨hr0, hr1⟩ := hr'
      have HC := q1_any l[k] w hr0 hr1
      cases hs : scal l[k] with
      | true =>
        rw [hs] at HC
        have HN := Lib.hid (take_snoc (p := fun c => scal c = true) hlt HP.out hs)
        clear hs
        go_wp2_with (first | (go_at_call 47; refine HC.mono ?_; rintro e w' ⟨rfl, rfl⟩))
        go_roundw
        case rel => exact ⟨k + 1, by omega, by go_num, by first | rfl | trivial, HN.out⟩
        case measure => simp [intOf]; omega
      | false =>
        rw [hs] at HC
        have HN := Lib.hid (badAt_here hlt hs HP.out)
        clear hs
        go_wp2_with (first | (go_at_call 47; refine HC.mono ?_; rintro e w' ⟨rfl, rfl⟩))
        go_ret
        exact ⟨by rw [HN.out]; rfl, rfl⟩
    · have HN : Hid (badAt l = -1) := badAt_none (by have := HP.out; rw [List.take_of_length_le (by omega)] at this; exact this)
      clear h hr
      go_wp2
      go_ret
      exact ⟨by rw [HN.out]; rfl, rfl⟩

def anyBad (l : List Int) : Bool := l.any fun c => !(scal c)
theorem anyBad_at (l : List Int) : decide (0 ≤ badAt l) = anyBad l := by
  unfold badAt anyBad
  rw [Bool.eq_iff_iff, decide_eq_true_eq, List.any_eq_true]
  constructor
  · intro h
    split at h
    · rename_i hlt
      exact ⟨_, List.getElem_mem hlt, List.findIdx_getElem (w := hlt)⟩
    · omega
  · rintro ⟨x, hx, hp⟩
    rw [if_pos (List.findIdx_lt_length_of_exists ⟨x, hx, hp⟩)]
    omega
theorem qcontains_any (A : Option Addr) (l : List Int) (cap : Nat) (w : World) (h : Runes w A l) (hr : ∀ c ∈ l, -2147483648 ≤ c ∧ c < 2147483648) (hl : l.length ≤ 100000) :
    Calls Tryd.prog 24 #[.slice A l.length cap, .func (.func 47) #[] #[]] w fun e w' => e = .returned (.bool (anyBad l)) ∧ w = w' := by
  have HC := qindex_any A l cap w h hr hl
  clear h hr
  have HB := Lib.hid (anyBad_at l)
  go_enter Tryd.func24, Tryd.ntmps24
  go_wp2_with (first | (go_at_call 43; refine HC.mono ?_; rintro e w' ⟨rfl, rfl⟩))
  go_ret
  refine ⟨?_, rfl⟩
  rw [← HB.out]
  try simp

end Go.Proofs.YtfaieldafoeaiaaDoor

/-
  The document of layer 6 as plain functions (a name's part, a name), and what follows of them.
-/
namespace Go.Proofs.YtfaieldafoeaiaaDoor

def xnB : List UInt8 := [120, 110, 45, 45]
def xnI : List Int := [120, 110, 45, 45]
def zs (l : List Nat) : List Int := l.map fun n : Nat => (n : Int)
def plainL (l : List Int) : Bool := l.all fun c => decide (c < 128)
def markL (l : List Int) : Bool := match l with
  | [] => false
  | c :: _ => decide (768 ≤ c) && decide (c ≤ 879)
/-- May a part that was told by letters be? -/
def okDec (s : List UInt8) : Bool := match pdec s with
  | none => false
  | some l => !(plainL (zs l)) && !(markL (zs l)) && decide (foldL (zs l) = some (zs l))
/-- One: a part. -/
def lone (l : List Int) : Option (List UInt8) :=
  if l.all scal then
    if l.take 4 = xnI then (if plainL l && okDec (enc (l.drop 4)) then some (enc l) else none)
    else if plainL l then some (enc l)
    else if markL l then none else some (xnB ++ penc (l.map Int.toNat))
  else none
def partsOf : List Int → List (List Int)
  | [] => [[]]
  | c :: l => if c = 46 then [] :: partsOf l else match partsOf l with
    | [] => [[c]]
    | p :: ps => (c :: p) :: ps
def joinB : List (List UInt8) → List UInt8
  | [] => []
  | [p] => p
  | p :: q :: ps => p ++ 46 :: joinB (q :: ps)
def joinI : List (List Int) → List Int
  | [] => []
  | [p] => p
  | p :: q :: ps => p ++ 46 :: joinI (q :: ps)
def mapOne : List (List Int) → Option (List (List UInt8))
  | [] => some []
  | p :: ps => match lone p, mapOne ps with
    | some x, some xs => some (x :: xs)
    | _, _ => none
/-- All: a name; what forbids it (0: nothing), and what it is told as. -/
def lall (l : List Int) : Nat × List UInt8 := match foldL l with
  | none => (2, [])
  | some f => match mapOne (partsOf f) with
    | none => (2, [])
    | some ps => if joinB ps = [] then (3, []) else (0, joinB ps)

theorem partsOf_ne (l : List Int) : partsOf l ≠ [] := by
  cases l with
  | nil => simp [partsOf]
  | cons c l =>
    unfold partsOf
    split
    · simp
    · split <;> simp
theorem partsOf_dot (l : List Int) : partsOf (46 :: l) = [] :: partsOf l := by simp [partsOf]
theorem partsOf_cons {c : Int} (h : c ≠ 46) {l p : List Int} {ps : List (List Int)} (hl : partsOf l = p :: ps) : partsOf (c :: l) = (c :: p) :: ps := by
  simp only [partsOf, if_neg h, hl]
theorem partsOf_append (a b : List Int) : partsOf (a ++ 46 :: b) = partsOf a ++ partsOf b := by
  induction a with
  | nil => exact partsOf_dot b
  | cons c a ih =>
    by_cases h : c = 46
    · subst h
      rw [List.cons_append, partsOf_dot, partsOf_dot, ih]; rfl
    · cases hp : partsOf a with
      | nil => exact absurd hp (partsOf_ne a)
      | cons p ps =>
        rw [List.cons_append, partsOf_cons h (p := p) (ps := ps ++ partsOf b) (by rw [ih, hp]; rfl), partsOf_cons h hp]; rfl
theorem partsOf_none {l : List Int} (h : (46 : Int) ∉ l) : partsOf l = [l] := by
  induction l with
  | nil => rfl
  | cons c l ih =>
    rw [List.mem_cons, not_or] at h
    exact partsOf_cons (Ne.symm h.1) (ih h.2)
theorem partsOf_free (l : List Int) : ∀ p ∈ partsOf l, (46 : Int) ∉ p := by
  induction l with
  | nil => intro p hp; simp [partsOf] at hp; subst hp; simp
  | cons c l ih =>
    by_cases h : c = 46
    · subst h
      rw [partsOf_dot]
      intro p hp
      rcases List.mem_cons.1 hp with rfl | hp
      · simp
      · exact ih p hp
    · cases hq : partsOf l with
      | nil => exact absurd hq (partsOf_ne l)
      | cons q qs =>
        rw [partsOf_cons h hq]
        intro p hp
        rcases List.mem_cons.1 hp with rfl | hp
        · rw [List.mem_cons, not_or]
          exact ⟨Ne.symm h, ih q (by rw [hq]; simp)⟩
        · exact ih p (by rw [hq]; simp [hp])
theorem joinI_cons (p : List Int) {ps : List (List Int)} (h : ps ≠ []) : joinI (p :: ps) = p ++ 46 :: joinI ps := by
  cases ps with
  | nil => exact absurd rfl h
  | cons q ps => rfl
theorem joinB_cons (p : List UInt8) {ps : List (List UInt8)} (h : ps ≠ []) : joinB (p :: ps) = p ++ 46 :: joinB ps := by
  cases ps with
  | nil => exact absurd rfl h
  | cons q ps => rfl
theorem join_parts (l : List Int) : joinI (partsOf l) = l := by
  induction l with
  | nil => rfl
  | cons c l ih =>
    by_cases h : c = 46
    · subst h
      rw [partsOf_dot, joinI_cons _ (partsOf_ne l), ih]; rfl
    · cases hq : partsOf l with
      | nil => exact absurd hq (partsOf_ne l)
      | cons q qs =>
        rw [partsOf_cons h hq]
        rw [hq] at ih
        cases qs with
        | nil => exact congrArg (c :: ·) ih
        | cons r rs =>
          rw [joinI_cons _ (by simp)] at ih ⊢
          exact congrArg (c :: ·) ih
theorem parts_join : ∀ (qs : List (List Int)), qs ≠ [] → (∀ q ∈ qs, (46 : Int) ∉ q) → partsOf (joinI qs) = qs := by
  intro qs
  induction qs with
  | nil => intro h; exact absurd rfl h
  | cons q qs ih =>
    intro _ hf
    cases qs with
    | nil => exact partsOf_none (hf q (by simp))
    | cons r rs =>
      rw [joinI_cons _ (by simp), partsOf_append, partsOf_none (hf q (by simp)), ih (by simp) (fun x hx => hf x (List.mem_cons_of_mem _ hx))]; rfl

theorem mapOne_append (a b : List (List Int)) : mapOne (a ++ b) = match mapOne a, mapOne b with
    | some x, some y => some (x ++ y)
    | _, _ => none := by
  induction a with
  | nil => rw [List.nil_append]; cases mapOne b <;> rfl
  | cons p a ih =>
    simp only [List.cons_append, mapOne, ih]
    cases lone p <;> cases mapOne a <;> cases mapOne b <;> rfl
theorem mapOne_length {a : List (List Int)} : ∀ {x : List (List UInt8)}, mapOne a = some x → x.length = a.length := by
  induction a with
  | nil => intro x h; simp [mapOne] at h; subst h; rfl
  | cons p a ih =>
    intro x h
    simp only [mapOne] at h
    cases hl : lone p with
    | none => rw [hl] at h; cases h
    | some y =>
      cases hm : mapOne a with
      | none => rw [hl, hm] at h; cases h
      | some ys =>
        rw [hl, hm] at h
        cases h
        rw [List.length_cons, List.length_cons, ih hm]
theorem joinB_append {x y : List (List UInt8)} (hx : x ≠ []) (hy : y ≠ []) : joinB (x ++ y) = joinB x ++ 46 :: joinB y := by
  induction x with
  | nil => exact absurd rfl hx
  | cons p x ih =>
    cases x with
    | nil => exact joinB_cons p hy
    | cons q x =>
      rw [List.cons_append, joinB_cons p (ps := q :: x ++ y) (by simp), ih (by simp), joinB_cons p (ps := q :: x) (by simp)]
      simp

/-- A dot makes no pair. -/
theorem dot_pairs : ∀ p ∈ pairs, p.1 ≠ 46 ∧ p.2.1 ≠ 46 ∧ p.2.2 ≠ 46 := by decide +kernel
theorem dot_left (c : Int) : madeOf 46 c = 0 := by
  apply Classical.byContradiction
  intro h
  exact (dot_pairs _ (madeIn_ne h)).1 rfl
theorem dot_right (c : Int) : madeOf c 46 = 0 := by
  apply Classical.byContradiction
  intro h
  exact (dot_pairs _ (madeIn_ne h)).2.1 rfl
theorem comp_dot (y : List Int) : ∀ (n : Nat) (x : List Int), x.length ≤ n → comp (x ++ 46 :: y) = comp x ++ 46 :: comp y := by
  have h0 : comp (46 :: y) = 46 :: comp y := comp_cons (fun z _ => dot_left z)
  intro n
  induction n with
  | zero =>
    intro x hx
    obtain rfl : x = [] := List.eq_nil_of_length_eq_zero (by omega)
    exact h0
  | succ n ih =>
    intro x hx
    match x, hx with
    | [], _ => exact h0
    | [a], _ =>
      show comp (a :: 46 :: y) = [a] ++ 46 :: comp y
      rw [comp_keep (dot_right a), h0]; rfl
    | a :: b :: t, hx =>
      simp only [List.length_cons] at hx
      show comp (a :: b :: (t ++ 46 :: y)) = _
      by_cases h : madeOf a b = 0
      · rw [comp_keep h, comp_keep h]
        have := ih (b :: t) (by simp; omega)
        rw [List.cons_append] at this
        rw [this]; rfl
      · rw [comp_pair h, comp_pair h, ih t (by omega)]; rfl
theorem comp_short : ∀ (n : Nat) (l : List Int), l.length ≤ n → (comp l).length ≤ l.length := by
  intro n
  induction n with
  | zero => intro l h; obtain rfl : l = [] := List.eq_nil_of_length_eq_zero (by omega); simp [comp]
  | succ n ih =>
    intro l h
    match l, h with
    | [], _ => simp [comp]
    | [a], _ => simp [comp]
    | a :: b :: t, h =>
      simp only [List.length_cons] at h
      by_cases hm : madeOf a b = 0
      · rw [comp_keep hm]
        have := ih (b :: t) (by simp; omega)
        simp only [List.length_cons] at this ⊢
        omega
      · rw [comp_pair hm]
        have := ih t (by omega)
        simp only [List.length_cons]
        omega
theorem comp_parts {x y : List Int} (h : comp (x ++ 46 :: y) = x ++ 46 :: y) : comp x = x ∧ comp y = y := by
  rw [comp_dot y x.length x (Nat.le_refl _)] at h
  have hl := congrArg List.length h
  have h1 := comp_short x.length x (Nat.le_refl _)
  have h2 := comp_short y.length y (Nat.le_refl _)
  simp only [List.length_append, List.length_cons] at hl
  have := List.append_inj h (by omega)
  exact ⟨this.1, by simpa using this.2⟩
theorem comp_each : ∀ (qs : List (List Int)), comp (joinI qs) = joinI qs → ∀ q ∈ qs, comp q = q := by
  intro qs
  induction qs with
  | nil => intro _ q hq; cases hq
  | cons p qs ih =>
    intro h q hq
    cases qs with
    | nil =>
      rcases List.mem_cons.1 hq with rfl | hq
      · exact h
      · cases hq
    | cons r rs =>
      rw [joinI_cons _ (by simp)] at h
      obtain ⟨h1, h2⟩ := comp_parts h
      rcases List.mem_cons.1 hq with rfl | hq
      · exact h1
      · exact ih h2 q hq
theorem mem_join : ∀ (qs : List (List Int)), ∀ q ∈ qs, ∀ x ∈ q, x ∈ joinI qs := by
  intro qs
  induction qs with
  | nil => intro q hq; cases hq
  | cons p qs ih =>
    intro q hq x hx
    cases qs with
    | nil =>
      rcases List.mem_cons.1 hq with rfl | hq
      · exact hx
      · cases hq
    | cons r rs =>
      rw [joinI_cons _ (by simp), List.mem_append]
      rcases List.mem_cons.1 hq with rfl | hq
      · exact .inl hx
      · exact .inr (List.mem_cons_of_mem _ (ih q hq x hx))
/-- A part of what is folded is folded to itself. -/
theorem fold_part {l f : List Int} (h : foldL l = some f) : ∀ q ∈ partsOf f, foldL q = some q := by
  intro q hq
  obtain ⟨h1, h2⟩ := fold_once h
  have hfx : Fixed f := by
    obtain ⟨m, hm, rfl⟩ := Option.map_eq_some_iff.1 h
    exact fixed_comp m.length m (Nat.le_refl _) (fixed_mapAll hm)
  have hqx : Fixed q := fun x hx => hfx x (by have := mem_join (partsOf f) q hq x hx; rwa [join_parts] at this)
  have hc : comp q = q := comp_each (partsOf f) (by rw [join_parts]; exact h2) q hq
  unfold foldL
  rw [mapAll_fixed hqx]
  show some (comp q) = some q
  rw [hc]

theorem all_folds {l f : List Int} (h : foldL l = some f) : lall f = lall l := by
  unfold lall
  rw [h, (fold_once h).1]
theorem all_bad {l : List Int} (h : foldL l = none) : lall l = (2, []) := by unfold lall; rw [h]
theorem fold_dot {a b x y : List Int} (ha : foldL a = some x) (hb : foldL b = some y) : foldL (a ++ 46 :: b) = some (x ++ 46 :: y) := by
  have h46 : foldL [46] = some [46] := by decide +kernel
  have h1 := fold_join ha h46
  have h2 := fold_join h1 hb
  rw [List.append_assoc, List.singleton_append] at h2
  have e1 : comp (x ++ [46]) = x ++ [46] := by rw [comp_dot [] x.length x (Nat.le_refl _), (fold_once ha).2]; rfl
  rw [h2, e1, List.append_assoc, List.singleton_append, comp_dot _ x.length x (Nat.le_refl _), (fold_once ha).2, (fold_once hb).2]
/-- Two names that may be. -/
theorem all_parts {a b : List Int} {s t : List UInt8} (ha : lall a = (0, s)) (hb : lall b = (0, t)) : lall (a ++ 46 :: b) = (0, s ++ 46 :: t) := by
  unfold lall at ha hb
  cases hx : foldL a with
  | none => rw [hx] at ha; cases ha
  | some x =>
    cases hy : foldL b with
    | none => rw [hy] at hb; cases hb
    | some y =>
      rw [hx] at ha
      rw [hy] at hb
      simp only at ha hb
      cases hp : mapOne (partsOf x) with
      | none => rw [hp] at ha; cases ha
      | some p =>
        cases hq : mapOne (partsOf y) with
        | none => rw [hq] at hb; cases hb
        | some q =>
          rw [hp] at ha
          rw [hq] at hb
          simp only at ha hb
          split at ha
          · cases ha
          · split at hb
            · cases hb
            · cases ha; cases hb
              have np : p ≠ [] := fun e => partsOf_ne x (List.eq_nil_of_length_eq_zero (by rw [← mapOne_length hp, e]; rfl))
              have nq : q ≠ [] := fun e => partsOf_ne y (List.eq_nil_of_length_eq_zero (by rw [← mapOne_length hq, e]; rfl))
              unfold lall
              rw [fold_dot hx hy]
              simp only
              rw [partsOf_append, mapOne_append, hp, hq]
              simp only
              rw [joinB_append np nq, if_neg (by simp)]
/-- One that may not be spoils the whole. -/
theorem all_spoilt {a b : List Int} (h : (lall a).1 = 2 ∨ (lall b).1 = 2) : (lall (a ++ 46 :: b)).1 ≠ 0 := by
  cases hx : foldL a with
  | none =>
    have : foldL (a ++ 46 :: b) = none := fold_none (.inl hx)
    rw [all_bad this]; simp
  | some x =>
    cases hy : foldL b with
    | none =>
      have h46 : foldL (46 :: b) = none := fold_none (a := [46]) (.inr hy)
      have : foldL (a ++ 46 :: b) = none := fold_none (.inr h46)
      rw [all_bad this]; simp
    | some y =>
      have key : mapOne (partsOf x) = none ∨ mapOne (partsOf y) = none := by
        unfold lall at h
        rw [hx, hy] at h
        simp only at h
        cases hp : mapOne (partsOf x) with
        | none => exact .inl rfl
        | some p =>
          cases hq : mapOne (partsOf y) with
          | none => exact .inr rfl
          | some q =>
            rw [hp, hq] at h
            simp only at h
            exfalso
            rcases h with h | h
            · split at h <;> simp at h
            · split at h <;> simp at h
      unfold lall
      rw [fold_dot hx hy]
      simp only
      rw [partsOf_append, mapOne_append]
      rcases key with e | e
      · rw [e]; simp
      · rw [e]
        cases mapOne (partsOf x) <;> simp

/-! Told once more. -/
theorem zs_nats {l : List Int} (h : ∀ c ∈ l, 0 ≤ c) : zs (l.map Int.toNat) = l := by
  unfold zs
  rw [List.map_map]
  refine (List.map_congr_left (g := id) fun c hc => ?_).trans (List.map_id _)
  have := h c hc
  show ((c.toNat : Nat) : Int) = c
  omega
theorem nats_zs (l : List Nat) : (zs l).map Int.toNat = l := by
  unfold zs
  rw [List.map_map]
  exact (List.map_congr_left (g := id) fun c _ => by simp).trans (List.map_id _)
theorem enc_plain {l : List Int} (h0 : ∀ c ∈ l, 0 ≤ c) (h1 : ∀ c ∈ l, c < 128) : enc l = l.map fun c => UInt8.ofNat c.toNat := by
  induction l with
  | nil => rfl
  | cons c l ih =>
    show enc1 c ++ enc l = _
    rw [enc1_one c (h0 c (by simp)) (h1 c (by simp)), ih (fun x hx => h0 x (List.mem_cons_of_mem _ hx)) (fun x hx => h1 x (List.mem_cons_of_mem _ hx))]; rfl
/-- The bytes of a text as numbers. -/
def bz (s : List UInt8) : List Int := s.map fun b => (b.toNat : Int)
theorem enc_bz {s : List UInt8} (h : ∀ b ∈ s, b.toNat < 128) : enc (bz s) = s := by
  rw [enc_plain (fun c hc => by obtain ⟨b, _, rfl⟩ := List.mem_map.1 hc; omega) (fun c hc => by obtain ⟨b, hb, rfl⟩ := List.mem_map.1 hc; have := h b hb; omega)]
  unfold bz
  rw [List.map_map]
  exact (List.map_congr_left (g := id) fun b _ => by simp).trans (List.map_id _)
theorem bz_enc {l : List Int} (h0 : ∀ c ∈ l, 0 ≤ c) (h1 : ∀ c ∈ l, c < 128) : bz (enc l) = l := by
  rw [enc_plain h0 h1]
  unfold bz
  rw [List.map_map]
  refine (List.map_congr_left (g := id) fun c hc => ?_).trans (List.map_id _)
  have a0 := h0 c hc
  have a1 := h1 c hc
  show ((UInt8.ofNat c.toNat).toNat : Int) = c
  rw [ofNat_toNat _ (by omega)]
  omega
theorem scal_low {c : Int} (h0 : 0 ≤ c) (h1 : c < 128) : scal c = true := (scal_iff c).2 ⟨h0, by omega, by omega⟩
/-- A text that is small: no byte from 128 on, no capital letter, no dot. -/
def Small6 (s : List UInt8) : Prop := ∀ b ∈ s, b.toNat < 128 ∧ ¬ (65 ≤ b.toNat ∧ b.toNat ≤ 90)
theorem tellK_small6 (bias : Nat) : ∀ (q k : Nat), Small6 (tellK q bias k) ∧ (46 : UInt8) ∉ tellK q bias k := by
  have hd : ∀ n : Fin 36, (dig n.val).toNat < 128 ∧ ¬ (65 ≤ (dig n.val).toNat ∧ (dig n.val).toNat ≤ 90) ∧ dig n.val ≠ 46 := by decide +kernel
  intro q
  induction q using Nat.strongRecOn with
  | _ q ih =>
    intro k
    have ht := thr_pos k bias
    by_cases h : q < thr k bias
    · rw [tellK_small h]
      have := hd ⟨q, by omega⟩
      simp only at this
      refine ⟨fun b hb => ?_, fun hb => ?_⟩
      · rw [List.mem_singleton] at hb; subst hb; exact ⟨this.1, this.2.1⟩
      · rw [List.mem_singleton] at hb; exact this.2.2 hb.symm
    · rw [tellK_more h]
      have hm : (q - thr k bias) % (36 - thr k bias) < 36 - thr k bias := Nat.mod_lt _ (by omega)
      have := hd ⟨thr k bias + (q - thr k bias) % (36 - thr k bias), by omega⟩
      simp only at this
      obtain ⟨i1, i2⟩ := ih ((q - thr k bias) / (36 - thr k bias)) (by
        have h1 : (q - thr k bias) / (36 - thr k bias) ≤ q - thr k bias := Nat.div_le_self _ _
        omega) (k + 36)
      refine ⟨fun b hb => ?_, fun hb => ?_⟩
      · rcases List.mem_cons.1 hb with rfl | hb
        · exact ⟨this.1, this.2.1⟩
        · exact i1 b hb
      · rcases List.mem_cons.1 hb with e | hb
        · exact this.2.2 e.symm
        · exact i2 hb
theorem tells_small6 (basic : Nat) (ds : List Nat) : ∀ (bias h : Nat), Small6 (tells basic ds bias h) ∧ (46 : UInt8) ∉ tells basic ds bias h := by
  induction ds with
  | nil => intro bias h; exact ⟨fun b hb => by simp [tells] at hb, by simp [tells]⟩
  | cons d ds ih =>
    intro bias h
    obtain ⟨a1, a2⟩ := tellK_small6 bias d 36
    obtain ⟨b1, b2⟩ := ih (adapt d (h + 1) (h == basic)) (h + 1)
    refine ⟨fun b hb => ?_, fun hb => ?_⟩
    · rcases List.mem_append.1 hb with hb | hb
      · exact a1 b hb
      · exact b1 b hb
    · rcases List.mem_append.1 hb with hb | hb
      · exact a2 hb
      · exact b2 hb
theorem penc_small6 {l : List Nat} (h : ∀ x ∈ l, x < 128 → ¬ (65 ≤ x ∧ x ≤ 90) ∧ x ≠ 46) : Small6 (penc l) ∧ (46 : UInt8) ∉ penc l := by
  obtain ⟨t1, t2⟩ := tells_small6 (basicOf l).length (deltas l l.length 128 0 (basicOf l).length) 72 (basicOf l).length
  have hb : ∀ b ∈ (basicOf l).map UInt8.ofNat, (b.toNat < 128 ∧ ¬ (65 ≤ b.toNat ∧ b.toNat ≤ 90)) ∧ b ≠ 46 := by
    intro b hb
    obtain ⟨x, hx, rfl⟩ := List.mem_map.1 hb
    have hx2 := basicOf_small l x hx
    have hx3 := h x (List.mem_filter.1 hx).1 hx2
    have e : (UInt8.ofNat x).toNat = x := by simp; omega
    refine ⟨by rw [e]; exact ⟨hx2, hx3.1⟩, fun e2 => ?_⟩
    rw [e2] at e
    exact hx3.2 (by rw [← e]; rfl)
  have hy : ∀ b ∈ (if (basicOf l).length = 0 then ([] : List UInt8) else [45]), (b.toNat < 128 ∧ ¬ (65 ≤ b.toNat ∧ b.toNat ≤ 90)) ∧ b ≠ 46 := by
    intro b hb
    split at hb
    · cases hb
    · rw [List.mem_singleton] at hb; subst hb; decide
  unfold penc
  refine ⟨fun b hb1 => ?_, fun hb1 => ?_⟩
  · rcases List.mem_append.1 hb1 with hb1 | hb1
    · rcases List.mem_append.1 hb1 with hb1 | hb1
      · exact (hb b hb1).1
      · exact (hy b hb1).1
    · exact t1 b hb1
  · rcases List.mem_append.1 hb1 with hb1 | hb1
    · rcases List.mem_append.1 hb1 with hb1 | hb1
      · exact (hb 46 hb1).2 rfl
      · exact (hy 46 hb1).2 rfl
    · exact t2 hb1
theorem fixed_low {x : Int} (h : ¬ Barred x ∧ mapTo x = [x]) : 0 ≤ x ∧ ¬ (65 ≤ x ∧ x ≤ 90) := by
  obtain ⟨h1, h2⟩ := h
  have h0 : 0 ≤ x := by unfold Barred at h1; omega
  refine ⟨h0, fun hc => ?_⟩
  have := (mapTo_small h0 (by omega)).2
  rw [h2] at this
  unfold lowc at this
  rw [if_pos hc] at this
  simp at this
  omega
/-- A part of what is folded, told: small, without dots, and told as itself. -/
theorem one_again {p : List Int} {x : List UInt8} (h : lone p = some x) (hf : foldL p = some p) (hx : Fixed p) (hd : (46 : Int) ∉ p) (hl : p.length ≤ 250) : Small6 x ∧ (46 : UInt8) ∉ x ∧ lone (bz x) = some x := by
  have hlow : ∀ c ∈ p, 0 ≤ c ∧ ¬ (65 ≤ c ∧ c ≤ 90) := fun c hc => fixed_low (hx c hc)
  have hplain : plainL p = true → x = enc p → Small6 x ∧ (46 : UInt8) ∉ x ∧ lone (bz x) = some x := by
    intro hp e
    subst e
    have h1 : ∀ c ∈ p, c < 128 := fun c hc => by
      have := List.all_eq_true.1 hp c hc
      simpa using this
    have h0 : ∀ c ∈ p, 0 ≤ c := fun c hc => (hlow c hc).1
    refine ⟨?_, ?_, by rw [bz_enc h0 h1]; exact h⟩
    · rw [enc_plain h0 h1]
      intro b hb
      obtain ⟨c, hc, rfl⟩ := List.mem_map.1 hb
      have a0 := h0 c hc
      have a1 := h1 c hc
      have a2 := (hlow c hc).2
      have e : (UInt8.ofNat c.toNat).toNat = c.toNat := by simp; omega
      rw [e]
      omega
    · rw [enc_plain h0 h1]
      intro hb
      obtain ⟨c, hc, e⟩ := List.mem_map.1 hb
      have a0 := h0 c hc
      have a1 := h1 c hc
      have e2 := congrArg UInt8.toNat e
      rw [show (UInt8.ofNat c.toNat).toNat = c.toNat by simp; omega] at e2
      have : c = 46 := by
        have e3 : ((46 : UInt8)).toNat = 46 := rfl
        rw [e3] at e2
        omega
      exact hd (this ▸ hc)
  have h' := h
  unfold lone at h
  split at h
  · rename_i hsc
    split at h
    · split at h
      · rename_i hpo
        rw [Bool.and_eq_true] at hpo
        cases h
        exact hplain hpo.1 rfl
      · cases h
    · split at h
      · rename_i hp
        cases h
        exact hplain hp rfl
      · rename_i hnp
        split at h
        · cases h
        · rename_i hnm
          cases h
          have hscal : ∀ n ∈ p.map Int.toNat, sc n = true := by
            intro n hn
            obtain ⟨c, hc, rfl⟩ := List.mem_map.1 hn
            have := (scal_iff c).1 (List.all_eq_true.1 hsc c hc)
            simp only [sc, Bool.and_eq_true, Bool.or_eq_true, decide_eq_true_eq]
            omega
          have hsm := penc_small6 (l := p.map Int.toNat) (fun n hn _ => by
            obtain ⟨c, hc, rfl⟩ := List.mem_map.1 hn
            have := hlow c hc
            refine ⟨by omega, fun e => ?_⟩
            have : c = 46 := by omega
            exact hd (this ▸ hc))
          have hxs : Small6 (xnB ++ penc (p.map Int.toNat)) := by
            intro b hb
            rcases List.mem_append.1 hb with hb | hb
            · exact (show ∀ b ∈ xnB, b.toNat < 128 ∧ ¬ (65 ≤ b.toNat ∧ b.toNat ≤ 90) by decide) b hb
            · exact hsm.1 b hb
          have hzs : zs (p.map Int.toNat) = p := zs_nats (fun c hc => (hlow c hc).1)
          refine ⟨hxs, ?_, ?_⟩
          · intro hb
            rcases List.mem_append.1 hb with hb | hb
            · exact (show (46 : UInt8) ∉ xnB by decide) hb
            · exact hsm.2 hb
          · have e1 : bz (xnB ++ penc (p.map Int.toNat)) = xnI ++ bz (penc (p.map Int.toNat)) := by unfold bz; rw [List.map_append]; rfl
            have e2 : (bz (xnB ++ penc (p.map Int.toNat))).all scal = true := by
              rw [List.all_eq_true]
              intro c hc
              obtain ⟨b, hb, rfl⟩ := List.mem_map.1 hc
              have := hxs b hb
              exact scal_low (by omega) (by omega)
            have e3 : plainL (bz (xnB ++ penc (p.map Int.toNat))) = true := by
              unfold plainL
              rw [List.all_eq_true]
              intro c hc
              obtain ⟨b, hb, rfl⟩ := List.mem_map.1 hc
              have := hxs b hb
              exact decide_eq_true (by omega)
            have e4 : (bz (xnB ++ penc (p.map Int.toNat))).take 4 = xnI := by rw [e1]; rfl
            have e5 : (bz (xnB ++ penc (p.map Int.toNat))).drop 4 = bz (penc (p.map Int.toNat)) := by rw [e1]; rfl
            have e6 : okDec (penc (p.map Int.toNat)) = true := by
              unfold okDec
              rw [pdec_penc hscal (by rw [List.length_map]; exact hl)]
              simp only
              rw [hzs, decide_eq_true hf, Bool.and_true, Bool.and_eq_true, Bool.not_eq_true', Bool.not_eq_true']
              exact ⟨by simpa using hnp, by simpa using hnm⟩
            unfold lone
            rw [if_pos e2, if_pos e4, e5, enc_bz (fun b hb => (hsm.1 b hb).1), e6, e3]
            simp only [Bool.and_true, if_true]
            rw [enc_bz (fun b hb => (hxs b hb).1)]
  · cases h
theorem mapOne_again : ∀ (ps : List (List Int)) (xs : List (List UInt8)), mapOne ps = some xs → (∀ p ∈ ps, foldL p = some p ∧ Fixed p ∧ (46 : Int) ∉ p ∧ p.length ≤ 250) → (∀ x ∈ xs, Small6 x ∧ (46 : UInt8) ∉ x) ∧ mapOne (xs.map bz) = some xs := by
  intro ps
  induction ps with
  | nil => intro xs h _; simp [mapOne] at h; subst h; exact ⟨by simp, rfl⟩
  | cons p ps ih =>
    intro xs h hp
    simp only [mapOne] at h
    cases hl : lone p with
    | none => rw [hl] at h; cases h
    | some y =>
      cases hm : mapOne ps with
      | none => rw [hl, hm] at h; cases h
      | some ys =>
        rw [hl, hm] at h
        cases h
        obtain ⟨q1, q2, q3, q4⟩ := hp p (by simp)
        obtain ⟨a1, a2, a3⟩ := one_again hl q1 q2 q3 q4
        obtain ⟨b1, b2⟩ := ih ys hm (fun q hq => hp q (List.mem_cons_of_mem _ hq))
        refine ⟨fun x hx => ?_, ?_⟩
        · rcases List.mem_cons.1 hx with rfl | hx
          · exact ⟨a1, a2⟩
          · exact b1 x hx
        · simp only [List.map_cons, mapOne, a3, b2]
theorem bz_join : ∀ (xs : List (List UInt8)), bz (joinB xs) = joinI (xs.map bz) := by
  intro xs
  induction xs with
  | nil => rfl
  | cons x xs ih =>
    cases xs with
    | nil => rfl
    | cons y xs =>
      rw [joinB_cons _ (by simp), List.map_cons, joinI_cons _ (by simp), ← ih]
      unfold bz
      rw [List.map_append, List.map_cons]; rfl
theorem small_join : ∀ (xs : List (List UInt8)), (∀ x ∈ xs, Small6 x) → Small6 (joinB xs) := by
  intro xs
  induction xs with
  | nil => intro _ b hb; cases hb
  | cons x xs ih =>
    intro h
    cases xs with
    | nil => exact h x (by simp)
    | cons y xs =>
      rw [joinB_cons _ (by simp)]
      intro b hb
      rcases List.mem_append.1 hb with hb | hb
      · exact h x (by simp) b hb
      · rcases List.mem_cons.1 hb with rfl | hb
        · decide
        · exact ih (fun z hz => h z (List.mem_cons_of_mem _ hz)) b hb
theorem part_length : ∀ (qs : List (List Int)), ∀ q ∈ qs, q.length ≤ (joinI qs).length := by
  intro qs
  induction qs with
  | nil => intro q hq; cases hq
  | cons p qs ih =>
    intro q hq
    cases qs with
    | nil =>
      rcases List.mem_cons.1 hq with rfl | hq
      · exact Nat.le_refl _
      · cases hq
    | cons r rs =>
      rw [joinI_cons _ (by simp), List.length_append, List.length_cons]
      rcases List.mem_cons.1 hq with rfl | hq
      · omega
      · have := ih q hq
        omega
/-- What a name is told as is told as itself. -/
theorem all_once {l f : List Int} {s : List UInt8} (h : lall l = (0, s)) (hf : foldL l = some f) (hl : f.length ≤ 250) : Small6 s ∧ lall (bz s) = (0, s) := by
  have h' := h
  unfold lall at h
  rw [hf] at h
  simp only at h
  cases hm : mapOne (partsOf f) with
  | none => rw [hm] at h; cases h
  | some xs =>
    rw [hm] at h
    simp only at h
    split at h
    · cases h
    · rename_i hne
      cases h
      have hfx : Fixed f := by
        obtain ⟨m, hm2, rfl⟩ := Option.map_eq_some_iff.1 hf
        exact fixed_comp m.length m (Nat.le_refl _) (fixed_mapAll hm2)
      obtain ⟨a1, a2⟩ := mapOne_again (partsOf f) xs hm (fun p hp => ⟨fold_part hf p hp, fun x hx => hfx x (by have := mem_join (partsOf f) p hp x hx; rwa [join_parts] at this), partsOf_free f p hp, by
        have := part_length (partsOf f) p hp
        rw [join_parts] at this
        omega⟩)
      have hsm := small_join xs (fun x hx => (a1 x hx).1)
      refine ⟨hsm, ?_⟩
      have hfold : foldL (bz (joinB xs)) = some (bz (joinB xs)) := by
        rw [fold_small (fun c hc => by
          obtain ⟨b, hb, rfl⟩ := List.mem_map.1 hc
          have := hsm b hb
          omega)]
        congr 1
        refine (List.map_congr_left (g := id) fun c hc => ?_).trans (List.map_id _)
        obtain ⟨b, hb, rfl⟩ := List.mem_map.1 hc
        have := hsm b hb
        show lowc _ = _
        unfold lowc
        rw [if_neg (by omega)]
        rfl
      have hxne : xs ≠ [] := fun e => partsOf_ne f (List.eq_nil_of_length_eq_zero (by rw [← mapOne_length hm, e]; rfl))
      have hparts : partsOf (bz (joinB xs)) = xs.map bz := by
        rw [bz_join]
        refine parts_join _ (by simpa using hxne) (fun q hq => ?_)
        obtain ⟨x, hx, rfl⟩ := List.mem_map.1 hq
        intro hb
        obtain ⟨b, hb, e⟩ := List.mem_map.1 hb
        have : b = 46 := by
          apply UInt8.toNat_inj.1
          have e2 : ((46 : UInt8)).toNat = 46 := rfl
          rw [e2]
          omega
        exact (a1 x hx).2 (this ▸ hb)
      unfold lall
      rw [hfold]
      simp only
      rw [hparts, a2]
      simp only
      rw [if_neg hne]
end Go.Proofs.YtfaieldafoeaiaaDoor

/-
  The document's tell, least, hyphen, weighted, by their contracts.
-/
namespace Go.Proofs.YtfaieldafoeaiaaDoor
open Go.RowKit

def TellPost (l : List UInt8) (w : World) (e : Ending) (w' : World) : Prop := ∃ v, e = .returned v ∧ MadeB w w' v l

/-- Numbers as runes. -/
def ints (l : List Nat) : List Int := l.map fun n : Nat => (n : Int)
theorem ints_length (l : List Nat) : (ints l).length = l.length := by simp [ints]
theorem ints_at (l : List Nat) (k : Nat) (h : k < l.length) : (ints l)[k]? = some ((l[k] : Nat) : Int) := by simp [ints, h]

def leastG (n m : Nat) (l : List Nat) : Nat := l.foldl (fun m c => if n ≤ c ∧ c < m then c else m) m
theorem leastG_succ (n m : Nat) (l : List Nat) (k : Nat) (h : k < l.length) : leastG n m (l.take (k + 1)) = if n ≤ l[k] ∧ l[k] < leastG n m (l.take k) then l[k] else leastG n m (l.take k) := by
  unfold leastG
  rw [List.take_succ_eq_append_getElem h, List.foldl_append]
  rfl

theorem drop_cons (s : ByteArray) (k : Nat) (h : k < s.size) : s.data.toList.drop k = s[k]'h :: s.data.toList.drop (k + 1) := by
  rw [List.drop_eq_getElem_cons (by simpa using h)]
  rfl
theorem byte_eq {b : UInt8} {n : Nat} (hn : n < 256) : ((b.toNat : Int) == (n : Int)) = true ↔ b = UInt8.ofNat n := by
  rw [beq_iff_eq]
  constructor
  · intro h
    apply UInt8.toNat_inj.1
    have : b.toNat = n := by omega
    rw [this]
    simp
    omega
  · rintro rfl
    simp
    omega

/-- What weighted tells: the number and the place behind it; twice 0 where something is wrong. -/
def wres (s : ByteArray) (o : Option (Nat × List UInt8)) : Nat × Nat := match o with
  | none => (0, 0)
  | some (j, r) => (j, s.size - r.length)
theorem par_nil (bias k w i : Nat) : par [] bias k w i = none := rfl
theorem par_cons (c : UInt8) (s : List UInt8) (bias k w i : Nat) : par (c :: s) bias k w i =
    if dval c.toNat < 0 then none
    else if 1099511627776 < i + (dval c.toNat).toNat * w then none
    else if (dval c.toNat).toNat < thr k bias then some (i + (dval c.toNat).toNat * w, s)
    else if 1099511627776 < w * (36 - thr k bias) then none
    else par s bias (k + 36) (w * (36 - thr k bias)) (i + (dval c.toNat).toNat * w) := rfl
theorem dval_lt (c : UInt8) : dval c.toNat < 36 := by
  by_cases h : 0 ≤ dval c.toNat
  · have := (lower_val c h).2.1
    omega
  · omega

end Go.Proofs.YtfaieldafoeaiaaDoor

/-
  The document's put: a list with a code point at a place.
-/
namespace Go.Proofs.YtfaieldafoeaiaaDoor
open Go.RowKit

theorem ints_ins (l : List Nat) (p n : Nat) : ints (ins l p n) = (ints l).take p ++ [(n : Int)] ++ (ints l).drop p := by
  simp [ints, ins, List.map_take, List.map_drop]

def PutPost (l : List Int) (w : World) (e : Ending) (w' : World) : Prop := ∃ v, e = .returned v ∧ Made w w' v l

end Go.Proofs.YtfaieldafoeaiaaDoor

/-
  The document's Encode of layer 4, by its contract.
-/
namespace Go.Proofs.YtfaieldafoeaiaaDoor
open Go.RowKit

theorem MadeB.form {w w' : World} {v : Value} {l : List UInt8} (h : MadeB w w' v l) : ∃ A c, v = .slice A l.length c := by
  rcases h.1.2 with ⟨rfl, h0⟩ | ⟨g, cap, cur, rfl, _⟩
  · exact ⟨none, 0, by rw [h0]⟩
  · exact ⟨_, _, rfl⟩
/-- 'append(s, x...)', both of them bytes of the call's own, x not empty. -/
theorem append_bytes {ops : Array Oper} {rest : List Oper} {o : Oper} {a : Act} {Q : Exit → Act → World → Prop} {W w0 w : World} (hgd : o.guard = none) (s x : Operand)
    (ho : o.op = .call { callee := .builtin .append, args := #[s, x], argTypes := #[38, 38] })
    (v vx : Value) (l lx : List UInt8) (hs : a.eval s = v) (hx : a.eval x = vx) (h1 : MadeB W w v l) (h2 : MadeB w0 w vx lx) (hne : lx ≠ []) (hl : l.length + lx.length ≤ 100000000000)
    (h : ∀ v' w', MadeB W w' v' (l ++ lx) → wpList Tryd.prog ops Q rest (a.put o.dst v') w') : wpList Tryd.prog ops Q (o :: rest) a w := by
  obtain ⟨i0, hi, hz0, hz1, hz2⟩ := info_parts Tryd.infoB
  rcases h2.1.2 with ⟨_, h0⟩ | ⟨g, cap, cur, rfl, _⟩
  · exact absurd (List.eq_nil_of_length_eq_zero h0) hne
  · refine wpList_append_own w hgd s x _ ho W.heap.size 5 i0 _ 1 1 Tryd.underlying38 hi hz0 hz1 hz2 rfl (by decide) v _ _ hs h1.1 ⟨g, 0, none⟩ lx.length cap (cellsOf lx) hx (by simp [cellsOf]) (fun j u hu => ?_) (cellsOf_one _) (by simp only [maxLen]; omega) (by omega) h1.2.size (fun v' w' hown hg _ => h v' w' ⟨?_, ?_⟩)
    · rw [add_at, Nat.zero_add, h2.1.cellAt (g := g) j (by have := (List.getElem?_eq_some_iff.1 hu).1; simpa [cellsOf] using this)]
      exact hu
    · rw [List.length_append, cellsOf_append]; exact hown
    · exact h1.2.grown hg h1.2.size (own_ge h1.1)

theorem sc_scal (n : Nat) : scal (n : Int) = sc n := by
  unfold scal sc
  by_cases h1 : n ≤ 1114111 <;> by_cases h2 : n < 55296 <;> by_cases h3 : 57343 < n <;> simp [h1, h2, h3] <;> omega
theorem basic_succ_lt (l : List Nat) (k : Nat) (h : k < l.length) (hc : l[k] < 128) : (basicOf (l.take (k + 1))).map UInt8.ofNat = (basicOf (l.take k)).map UInt8.ofNat ++ [UInt8.ofNat l[k]] := by
  unfold basicOf
  rw [List.take_succ_eq_append_getElem h, List.filter_append, List.filter_cons_of_pos (by simpa using hc)]
  simp
theorem basic_succ_ge (l : List Nat) (k : Nat) (h : k < l.length) (hc : ¬ l[k] < 128) : (basicOf (l.take (k + 1))).map UInt8.ofNat = (basicOf (l.take k)).map UInt8.ofNat := by
  unfold basicOf
  rw [List.take_succ_eq_append_getElem h, List.filter_append, List.filter_cons_of_neg (by simpa using hc)]
  simp
theorem basic_length (l : List Nat) : (basicOf l).length ≤ l.length := List.length_filter_le _ _

def TextTwo (t : ByteArray) (n : Int) (w : World) (e : Ending) (w' : World) : Prop := e = .returned (.tuple #[.string t, .int .i64 n]) ∧ Below w.heap.size w w'

end Go.Proofs.YtfaieldafoeaiaaDoor

/-
  The document's Encode of layer 4 at scalars, by its contract.
-/
namespace Go.Proofs.YtfaieldafoeaiaaDoor
open Go.RowKit

theorem filt_count (l : List Nat) (m : Nat) : (l.filter (· < m + 1)).length = (l.filter (· < m)).length + l.count m := by
  induction l with
  | nil => rfl
  | cons c l ih =>
    by_cases h1 : c < m
    · rw [List.filter_cons_of_pos (by simp; omega), List.filter_cons_of_pos (by simpa using h1), List.count_cons_of_ne (by omega)]
      simp only [List.length_cons]; omega
    · by_cases h2 : c = m
      · subst h2
        rw [List.filter_cons_of_pos (by simp), List.filter_cons_of_neg (by simp), List.count_cons_self]
        simp only [List.length_cons]; omega
      · rw [List.filter_cons_of_neg (by simp; omega), List.filter_cons_of_neg (by simp; omega), List.count_cons_of_ne (by omega)]
        exact ih
theorem count_take (l : List Nat) (m k : Nat) (h : k < l.length) : (l.take (k + 1)).count m = (l.take k).count m + (if l[k] = m then 1 else 0) := by
  rw [List.take_succ_eq_append_getElem h, List.count_append, List.count_singleton]
  simp
/-- What is still to be told, inside a pass. -/
def restOf (ln : List Nat) (f m : Nat) (t : List Nat) (d h : Nat) : List Nat := (scan m t d).1 ++ deltas ln f (m + 1) ((scan m t d).2 + 1) (h + (scan m t d).1.length)
theorem rest_nil (ln : List Nat) (f m d h : Nat) : restOf ln f m [] d h = deltas ln f (m + 1) (d + 1) h := rfl
theorem rest_lt (ln : List Nat) (f m c d h : Nat) (t : List Nat) (hc : c < m) : restOf ln f m (c :: t) d h = restOf ln f m t (d + 1) h := by
  unfold restOf; rw [show scan m (c :: t) d = scan m t (d + 1) by simp [scan, hc]]
theorem rest_gt (ln : List Nat) (f m c d h : Nat) (t : List Nat) (hc : m < c) : restOf ln f m (c :: t) d h = restOf ln f m t d h := by
  unfold restOf; rw [show scan m (c :: t) d = scan m t d by simp [scan, show ¬ c < m by omega, show ¬ c = m by omega]]
theorem rest_eq (ln : List Nat) (f m d h : Nat) (t : List Nat) : restOf ln f m (m :: t) d h = d :: restOf ln f m t 0 (h + 1) := by
  unfold restOf
  rw [show scan m (m :: t) d = (d :: (scan m t 0).1, (scan m t 0).2) by simp [scan]]
  simp only [List.cons_append, List.length_cons]
  rw [show h + ((scan m t 0).1.length + 1) = h + 1 + (scan m t 0).1.length by omega]
theorem deltas_more (ln : List Nat) (f n d h : Nat) (hh : h < ln.length) : deltas ln (f + 1) n d h = restOf ln f (least ln n) ln (d + (least ln n - n) * (h + 1)) h := by
  rw [deltas, if_pos hh]; rfl
theorem deltas_done (ln : List Nat) (f n d h : Nat) (hh : ¬ h < ln.length) : deltas ln f n d h = [] := by
  cases f with
  | zero => rfl
  | succ f => rw [deltas, if_neg hh]
theorem tellK_length (bias : Nat) : ∀ (q k : Nat), (tellK q bias k).length ≤ q + 1 := by
  intro q
  induction q using Nat.strongRecOn with
  | _ q ih =>
    intro k
    have ht := thr_pos k bias
    by_cases h : q < thr k bias
    · rw [tellK_small h]; simp
    · rw [tellK_more h, List.length_cons]
      have h1 : (q - thr k bias) / (36 - thr k bias) ≤ q - thr k bias := Nat.div_le_self _ _
      have := ih ((q - thr k bias) / (36 - thr k bias)) (by omega) (k + 36)
      omega

theorem beq_cast (a b : Nat) : ((a : Int) == (b : Int)) = (a == b) := by
  by_cases h : a = b
  · subst h; simp
  · rw [beq_eq_false_iff_ne.2 h, beq_eq_false_iff_ne.2 (by omega)]
theorem filt_same {l : List Nat} {n m : Nat} (h1 : n ≤ m) (h2 : ∀ c ∈ l, n ≤ c → m ≤ c) : l.filter (· < n) = l.filter (· < m) := by
  refine List.filter_congr fun c hc => ?_
  have := h2 c hc
  by_cases h : c < n
  · simp [h]; omega
  · simp [h]; exact this (by omega)

/-- The outer loop: what is told, and what is still to be told. -/
def EncRel (w : World) (ln : List Nat) (v : Value) (n d bias h : Nat) (wr : World) : Prop :=
  ∃ (f : Nat) (acc : List UInt8), MadeB w wr v acc ∧ acc ++ tells (basicOf ln).length (deltas ln f n d h) bias h = penc ln ∧ h = (ln.filter (· < n)).length ∧ ln.length - h ≤ f ∧
    n ≤ 1114112 ∧ d ≤ 251 * n ∧ bias ≤ 1000000000 ∧ acc.length ≤ (h + 1) * 300000000
/-- The inner loop. -/
def PassRel (w : World) (ln : List Nat) (f m x : Nat) (v : Value) (d bias h : Nat) (wr : World) : Prop :=
  ∃ acc : List UInt8, MadeB w wr v acc ∧ acc ++ tells (basicOf ln).length (restOf ln f m (ln.drop x) d h) bias h = penc ln ∧ h = (ln.filter (· < m)).length + (ln.take x).count m ∧
    d ≤ 251 * m + x ∧ bias ≤ 1000000000 ∧ acc.length ≤ (h + 1) * 300000000

end Go.Proofs.YtfaieldafoeaiaaDoor

/-
  The document's Decode of layer 4, by its contract.
-/
namespace Go.Proofs.YtfaieldafoeaiaaDoor
open Go.RowKit

theorem sc_scal' (n : Nat) : scal (n : Int) = sc n := by
  unfold scal sc
  by_cases h1 : n ≤ 1114111 <;> by_cases h2 : n < 55296 <;> by_cases h3 : 57343 < n <;> simp [h1, h2, h3] <;> omega
theorem beq_zero (a : Nat) : ((a : Int) == 0) = (a == 0) := by
  by_cases h : a = 0
  · subst h; rfl
  · rw [beq_eq_false_iff_ne.2 h, beq_eq_false_iff_ne.2 (by omega)]
theorem Made.lower {w w1 w' : World} {v : Value} {l : List Int} (h : Made w1 w' v l) (hb : Below w.heap.size w w1) : Made w w' v l := by
  obtain ⟨⟨h1, h2⟩, h3⟩ := h
  refine ⟨⟨h1, ?_⟩, hb.trans (h3.mono hb.size)⟩
  have := hb.size
  rcases h2 with h2 | ⟨g, cap, cur, rfl, hg, hh, r⟩
  · exact .inl h2
  · exact .inr ⟨g, cap, cur, rfl, by omega, hh, r⟩
theorem Made.form {w w' : World} {v : Value} {l : List Int} (h : Made w w' v l) : ∃ A c, v = .slice A l.length c := by
  obtain ⟨A, c, e, _⟩ := h.runes
  exact ⟨A, c, e⟩
theorem decT_nil (f : Nat) (cur : List Nat) (n i bias : Nat) : decT f [] cur n i bias = some cur := by cases f <;> rfl
theorem decT_none {f : Nat} {s : List UInt8} {cur : List Nat} {n i bias : Nat} (hs : s ≠ []) (h : par s bias 36 1 i = none) : decT (f + 1) s cur n i bias = none := by
  cases s with
  | nil => exact absurd rfl hs
  | cons c s => unfold decT; rw [h]
theorem decT_some {f : Nat} {s r : List UInt8} {cur : List Nat} {n i bias j : Nat} (hs : s ≠ []) (h : par s bias 36 1 i = some (j, r)) : decT (f + 1) s cur n i bias =
    if sc (n + j / (cur.length + 1)) then decT f r (ins cur (j % (cur.length + 1)) (n + j / (cur.length + 1))) (n + j / (cur.length + 1)) (j % (cur.length + 1) + 1) (adapt (j - i) (cur.length + 1) (i == 0)) else none := by
  cases s with
  | nil => exact absurd rfl hs
  | cons c s =>
    conv => lhs; unfold decT
    rw [h]
theorem par_rest {s : ByteArray} {p bias i j : Nat} {r : List UInt8} (h : par (s.data.toList.drop p) bias 36 1 i = some (j, r)) (hp : p ≤ s.size) :
    ∃ p', p < p' ∧ p' ≤ s.size ∧ r = s.data.toList.drop p' ∧ s.size - r.length = p' ∧ i ≤ j ∧ j ≤ 1099511627776 := by
  obtain ⟨q, pre, hj, he, hne, _, hb⟩ := tell_par bias _ _ _ _ _ _ h
  have hl := congrArg List.length he
  rw [List.length_drop, List.length_append] at hl
  have hsz : s.data.toList.length = s.size := by simp
  have hpos := List.length_pos_iff.2 hne
  refine ⟨p + pre.length, by omega, by omega, ?_, by omega, by omega, hb⟩
  rw [← List.drop_drop, he, List.drop_left' rfl]

def DecTwo (o : Option (List Nat)) (w : World) (e : Ending) (w' : World) : Prop := match o with
  | none => e = .returned (.tuple #[.slice none 0 0, .int .i64 2]) ∧ Below w.heap.size w w'
  | some l => ∃ v, e = .returned (.tuple #[v, .int .i64 0]) ∧ Made w w' v (ints l)

/-- The loop: what is left decodes to what the text does. -/
def DecRelN (w : World) (s : ByteArray) (P : Option (List Nat)) (v : Value) (p n i bias : Nat) (wr : World) : Prop :=
  ∃ (f : Nat) (cur : List Nat), Made w wr v (ints cur) ∧ decT f (s.data.toList.drop p) cur n i bias = P ∧ s.size - p ≤ f ∧ p ≤ s.size ∧ cur.length ≤ p ∧ i ≤ cur.length ∧ n ≤ 1114111 ∧ bias ≤ 4398046511104

theorem digits_all {l : List UInt8} {k : Nat} (h : k < l.length) (h1 : ∀ b ∈ l.take k, b.toNat < 128) (h2 : l[k].toNat < 128) : ∀ b ∈ l.take (k + 1), b.toNat < 128 := by
  intro b hb
  rw [List.take_succ_eq_append_getElem h, List.mem_append, List.mem_singleton] at hb
  rcases hb with hb | rfl
  · exact h1 b hb
  · exact h2
theorem pdec_bad {l : List UInt8} {k : Nat} (h : k < l.length) (h2 : 128 ≤ l[k].toNat) : pdec l = none := by
  unfold pdec
  rw [if_pos]
  exact List.any_eq_true.2 ⟨l[k], List.getElem_mem h, by simpa using h2⟩
theorem pdec_good {l : List UInt8} (h : ∀ b ∈ l, b.toNat < 128) : pdec l =
    if 0 < hyph l then decT l.length (l.drop ((hyph l).toNat + 1)) ((l.take (hyph l).toNat).map UInt8.toNat) 128 0 72 else decT l.length l [] 128 0 72 := by
  unfold pdec
  rw [if_neg]
  intro hn
  obtain ⟨b, hb, h1⟩ := List.any_eq_true.1 hn
  have := h b hb
  simp at h1
  omega
theorem hyph_lt (s : List UInt8) : -1 ≤ hyph s ∧ hyph s < s.length ∨ s = [] ∧ hyph s = -1 := by
  by_cases h : s = []
  · subst h; right; exact ⟨rfl, by decide⟩
  · left
    unfold hyph
    have h1 : s.reverse.findIdx (· == 45) ≤ s.reverse.length := List.findIdx_le_length
    have h2 := List.length_pos_iff.2 h
    rw [List.length_reverse] at h1
    omega
theorem toNat_take (l : List UInt8) (k : Nat) (h : k < l.length) : ints ((l.take (k + 1)).map UInt8.toNat) = ints ((l.take k).map UInt8.toNat) ++ [((l[k].toNat : Nat) : Int)] := by
  rw [List.take_succ_eq_append_getElem h]
  simp only [ints, List.map_append, List.map_cons, List.map_nil]

end Go.Proofs.YtfaieldafoeaiaaDoor

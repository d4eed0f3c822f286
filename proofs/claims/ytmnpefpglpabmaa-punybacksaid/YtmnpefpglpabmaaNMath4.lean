/-
  Punycode as texts: Encode and Decode as plain functions, there and back.
-/
import Derived.Test.YtmnpefpglpabmaaNMath3
namespace Go.Proofs.Ytmnpefpglpabmaa

/-- Deltas told by digits. -/
def tells (basic : Nat) : List Nat → Nat → Nat → List UInt8
  | [], _, _ => []
  | d :: ds, bias, h => tellK d bias 36 ++ tells basic ds (adapt d (h + 1) (h == basic)) (h + 1)
/-- A scalar. -/
def sc (n : Nat) : Bool := decide (n ≤ 1114111) && (decide (n < 55296) || decide (57343 < n))
/-- What a text of digits puts into a list. -/
def decT : Nat → List UInt8 → List Nat → Nat → Nat → Nat → Option (List Nat)
  | _, [], cur, _, _, _ => some cur
  | 0, _ :: _, _, _, _, _ => none
  | f + 1, c :: s, cur, n, i, bias =>
    match par (c :: s) bias 36 1 i with
    | none => none
    | some (j, r) =>
      if sc (n + j / (cur.length + 1)) then
        decT f r (ins cur (j % (cur.length + 1)) (n + j / (cur.length + 1))) (n + j / (cur.length + 1)) (j % (cur.length + 1) + 1) (adapt (j - i) (cur.length + 1) (i == 0))
      else none
def basicOf (l : List Nat) : List Nat := l.filter (· < 128)
/-- Encode. -/
def penc (l : List Nat) : List UInt8 :=
  (basicOf l).map UInt8.ofNat ++ (if (basicOf l).length = 0 then [] else [45]) ++ tells (basicOf l).length (deltas l l.length 128 0 (basicOf l).length) 72 (basicOf l).length
/-- The place of the last hyphen; -1: there is none. -/
def hyph (s : List UInt8) : Int := (s.length : Int) - 1 - (s.reverse.findIdx (· == 45) : Nat)
/-- Decode. -/
def pdec (s : List UInt8) : Option (List Nat) :=
  if s.any (fun b => decide (128 ≤ b.toNat)) then none
  else if 0 < hyph s then decT s.length (s.drop ((hyph s).toNat + 1)) ((s.take (hyph s).toNat).map UInt8.toNat) 128 0 72
  else decT s.length s [] 128 0 72
/-- Letters behind the last hyphen made small. -/
def small (s : List UInt8) : List UInt8 := s.take (hyph s + 1).toNat ++ (s.drop (hyph s + 1).toNat).map lower

theorem tellK_ne (bias : Nat) (q k : Nat) : tellK q bias k ≠ [] := by
  by_cases h : q < thr k bias
  · rw [tellK_small h]; simp
  · rw [tellK_more h]; simp
theorem tellK_bytes (bias : Nat) : ∀ (q k : Nat), ∀ b ∈ tellK q bias k, b.toNat < 128 ∧ b ≠ 45 := by
  intro q
  induction q using Nat.strongRecOn with
  | _ q ih =>
    intro k b hb
    have ht := thr_pos k bias
    by_cases h : q < thr k bias
    · rw [tellK_small h] at hb
      simp only [List.mem_singleton] at hb
      subst hb
      exact (dig_val ⟨q, by omega⟩).2
    · rw [tellK_more h] at hb
      have hm : (q - thr k bias) % (36 - thr k bias) < 36 - thr k bias := Nat.mod_lt _ (by omega)
      rcases List.mem_cons.1 hb with rfl | hb
      · exact (dig_val ⟨_, by omega⟩).2
      · exact ih _ (by
          have h1 : (q - thr k bias) / (36 - thr k bias) ≤ q - thr k bias := Nat.div_le_self _ _
          omega) _ b hb
theorem tells_bytes (basic : Nat) (ds : List Nat) : ∀ (bias h : Nat), ∀ b ∈ tells basic ds bias h, b.toNat < 128 ∧ b ≠ 45 := by
  induction ds with
  | nil => intro bias h b hb; simp [tells] at hb
  | cons d ds ih =>
    intro bias h b hb
    rcases List.mem_append.1 hb with hb | hb
    · exact tellK_bytes _ _ _ b hb
    · exact ih _ _ b hb
theorem dtells_length (basic : Nat) (ds : List Nat) : ∀ (bias h : Nat), ds.length ≤ (tells basic ds bias h).length := by
  induction ds with
  | nil => intro bias h; simp [tells]
  | cons d ds ih =>
    intro bias h
    have h1 := ih (adapt d (h + 1) (h == basic)) (h + 1)
    have h2 := List.length_pos_iff.2 (tellK_ne bias d 36)
    show _ ≤ (tellK d bias 36 ++ _).length
    rw [List.length_append, List.length_cons]
    omega

/-- The first one, or not. -/
def Flag (basic len i : Nat) : Prop := (len = basic ∧ i = 0) ∨ (basic < len ∧ 1 ≤ i)
theorem Flag.eq {basic len i : Nat} (h : Flag basic len i) : (len == basic) = (i == 0) := by
  rcases h with ⟨rfl, rfl⟩ | ⟨h1, h2⟩
  · simp
  · rw [beq_eq_false_iff_ne.2 (by omega), beq_eq_false_iff_ne.2 (by omega)]
theorem Flag.next {basic len i p : Nat} (h : Flag basic len i) : Flag basic (len + 1) (p + 1) := by
  rcases h with ⟨rfl, rfl⟩ | ⟨h1, h2⟩
  · exact .inr ⟨by omega, by omega⟩
  · exact .inr ⟨by omega, by omega⟩

/-- Deltas that are told are read. -/
theorem decT_tells (basic : Nat) (ds : List Nat) : ∀ (f : Nat) (cur : List Nat) (n i bias : Nat), (tells basic ds bias cur.length).length ≤ f → Flag basic cur.length i →
    (∀ x ∈ (runD ds cur n i).1, sc x = true) → (runD ds cur n i).1.length ≤ 60 → decT f (tells basic ds bias cur.length) cur n i bias = some (runD ds cur n i).1 := by
  induction ds with
  | nil => intro f cur n i bias hf hfl hs hl; cases f <;> rfl
  | cons d ds ih =>
    intro f cur n i bias hf hfl hs hl
    obtain ⟨f, rfl⟩ : ∃ g, f = g + 1 := by
      have h2 := List.length_pos_iff.2 (tellK_ne bias d 36)
      have : (tells basic (d :: ds) bias cur.length).length = (tellK d bias 36).length + (tells basic ds (adapt d (cur.length + 1) (cur.length == basic)) (cur.length + 1)).length := List.length_append
      exact ⟨f - 1, by omega⟩
    have hlen : cur.length + (d :: ds).length ≤ 60 := by rw [← runD_length (d :: ds) cur n i]; exact hl
    rw [List.length_cons] at hlen
    have hin : n + (i + d) / (cur.length + 1) ∈ (runD (d :: ds) cur n i).1 := runD_mem ds _ _ _ _ (mem_ins.2 (.inl rfl))
    have hsc := hs _ hin
    have hle : (i + d) / (cur.length + 1) ≤ 1114111 := by
      simp only [sc, Bool.and_eq_true, decide_eq_true_eq] at hsc
      exact Nat.le_trans (Nat.le_add_left _ _) hsc.1
    have hb1 : i + d < 1114112 * (cur.length + 1) := (Nat.div_lt_iff_lt_mul (by omega)).1 (by omega)
    have hb : i + d < 1114112 * 61 := Nat.lt_of_lt_of_le hb1 (Nat.mul_le_mul_left _ (by omega))
    have hp := par_tell bias (tells basic ds (adapt d (cur.length + 1) (cur.length == basic)) (cur.length + 1)) d 36 1 i (by omega) (by omega)
    rw [Nat.mul_one] at hp
    have htx : tells basic (d :: ds) bias cur.length = tellK d bias 36 ++ tells basic ds (adapt d (cur.length + 1) (cur.length == basic)) (cur.length + 1) := rfl
    rw [← htx] at hp
    cases ht : tells basic (d :: ds) bias cur.length with
    | nil => rw [htx] at ht; exact absurd (List.append_eq_nil_iff.1 ht).1 (tellK_ne _ _ _)
    | cons c s =>
      rw [ht] at hp
      unfold decT
      rw [hp]
      simp only
      rw [if_pos hsc, show i + d - i = d by omega, ← hfl.eq]
      have hl1 := ins_length cur ((i + d) % (cur.length + 1)) (n + (i + d) / (cur.length + 1))
      have := ih f (ins cur ((i + d) % (cur.length + 1)) (n + (i + d) / (cur.length + 1))) (n + (i + d) / (cur.length + 1)) ((i + d) % (cur.length + 1) + 1) (adapt d (cur.length + 1) (cur.length == basic))
      rw [hl1] at this
      refine this ?_ hfl.next hs hl
      have h2 := List.length_pos_iff.2 (tellK_ne bias d 36)
      rw [htx, List.length_append] at hf
      omega

/-- What is read is how it is told. -/
theorem tells_decT (basic : Nat) : ∀ (f : Nat) (s : List UInt8) (cur : List Nat) (n i bias : Nat) (l : List Nat), decT f s cur n i bias = some l → Flag basic cur.length i →
    (∀ x ∈ cur, sc x = true) → ∃ ds, s.map lower = tells basic ds bias cur.length ∧ (runD ds cur n i).1 = l ∧ ∀ x ∈ l, sc x = true := by
  intro f
  induction f with
  | zero =>
    intro s cur n i bias l h hfl hs
    cases s with
    | nil =>
      simp only [decT, Option.some.injEq] at h
      subst h
      exact ⟨[], rfl, rfl, hs⟩
    | cons c s => simp [decT] at h
  | succ f ih =>
    intro s cur n i bias l h hfl hs
    cases s with
    | nil =>
      simp only [decT, Option.some.injEq] at h
      subst h
      exact ⟨[], rfl, rfl, hs⟩
    | cons c s =>
      unfold decT at h
      split at h
      · cases h
      · rename_i j r hp
        split at h
        · rename_i hsc
          obtain ⟨q, pre, hj, he, hne, hpre, _⟩ := tell_par bias _ _ _ _ _ _ hp
          rw [Nat.mul_one] at hj
          subst hj
          rw [show i + q - i = q by omega, ← hfl.eq] at h
          have hl1 := ins_length cur ((i + q) % (cur.length + 1)) (n + (i + q) / (cur.length + 1))
          obtain ⟨ds, h1, h2, h3⟩ := ih _ _ _ _ _ _ h (by rw [hl1]; exact hfl.next) (fun x hx => by
            rcases mem_ins.1 hx with rfl | hx
            · exact hsc
            · exact hs x hx)
          refine ⟨q :: ds, ?_, h2, h3⟩
          rw [he, List.map_append, hpre, h1, hl1]
          rfl
        · cases h

theorem hyph_none {s : List UInt8} (h : (45 : UInt8) ∉ s) : hyph s = -1 := by
  unfold hyph
  have : s.reverse.findIdx (· == 45) = s.reverse.length := by
    rw [List.findIdx_eq_length]
    intro x hx
    rw [beq_eq_false_iff_ne]
    rintro rfl
    exact h (List.mem_reverse.1 hx)
  rw [this, List.length_reverse]
  omega
theorem hyph_at {a b : List UInt8} (h : (45 : UInt8) ∉ b) : hyph (a ++ 45 :: b) = a.length := by
  unfold hyph
  have e : (a ++ 45 :: b).reverse = b.reverse ++ 45 :: a.reverse := by simp
  have : (b.reverse ++ 45 :: a.reverse).findIdx (· == 45) = b.length := by
    rw [List.findIdx_append]
    have : b.reverse.findIdx (· == 45) = b.reverse.length := by
      rw [List.findIdx_eq_length]
      intro x hx
      rw [beq_eq_false_iff_ne]
      rintro rfl
      exact h (List.mem_reverse.1 hx)
    rw [this, if_neg (by omega)]
    simp [List.findIdx_cons]
  rw [e, this]
  simp
  omega
theorem split_last {s : List UInt8} (h : (45 : UInt8) ∈ s) : ∃ a b, s = a ++ 45 :: b ∧ (45 : UInt8) ∉ b := by
  induction s with
  | nil => cases h
  | cons c s ih =>
    by_cases hs : (45 : UInt8) ∈ s
    · obtain ⟨a, b, rfl, hb⟩ := ih hs
      exact ⟨c :: a, b, rfl, hb⟩
    · rcases List.mem_cons.1 h with rfl | h
      · exact ⟨[], s, rfl, hs⟩
      · exact absurd h hs

theorem sc_lt {n : Nat} (h : sc n = true) : n < 1114112 := by
  simp only [sc, Bool.and_eq_true, decide_eq_true_eq] at h
  omega
theorem sc_small {n : Nat} (h : n < 128) : sc n = true := by
  simp only [sc, Bool.and_eq_true, Bool.or_eq_true, decide_eq_true_eq]
  omega
theorem run_deltas {l : List Nat} (hs : ∀ x ∈ l, sc x = true) : (runD (deltas l l.length 128 0 (basicOf l).length) (basicOf l) 128 0).1 = l :=
  deltas_run l (fun c hc => sc_lt (hs c hc)) l.length 128 0 (basicOf l).length 128 0 (by omega) rfl (Nat.le_refl _) (by simp)
theorem ofNat_back {l : List Nat} (h : ∀ x ∈ l, x < 128) : (l.map UInt8.ofNat).map UInt8.toNat = l := by
  rw [List.map_map]
  refine (List.map_congr_left (g := id) fun x hx => ?_).trans (List.map_id _)
  have := h x hx
  show (UInt8.ofNat x).toNat = x
  simp
  omega
theorem basicOf_small (l : List Nat) : ∀ x ∈ basicOf l, x < 128 := fun x hx => by simpa using (List.mem_filter.1 hx).2
theorem penc_bytes (l : List Nat) : ∀ b ∈ penc l, b.toNat < 128 := by
  intro b hb
  unfold penc at hb
  rcases List.mem_append.1 hb with hb | hb
  · rcases List.mem_append.1 hb with hb | hb
    · obtain ⟨x, hx, rfl⟩ := List.mem_map.1 hb
      have := basicOf_small l x hx
      simp; omega
    · split at hb
      · simp at hb
      · simp only [List.mem_singleton] at hb; subst hb; decide
  · exact (tells_bytes _ _ _ _ b hb).1

/-- Scalars are told there and back. -/
theorem pdec_penc {l : List Nat} (hs : ∀ x ∈ l, sc x = true) (hl : l.length ≤ 60) : pdec (penc l) = some l := by
  have hrun := run_deltas hs
  have hany : (penc l).any (fun b => decide (128 ≤ b.toNat)) = false := by
    rw [List.any_eq_false]
    intro b hb
    have := penc_bytes l b hb
    simp; omega
  unfold pdec
  rw [hany]
  simp only [Bool.false_eq_true, if_false]
  obtain ⟨T, hT⟩ : ∃ T, tells (basicOf l).length (deltas l l.length 128 0 (basicOf l).length) 72 (basicOf l).length = T := ⟨_, rfl⟩
  have hT45 : (45 : UInt8) ∉ T := by
    intro h45
    rw [← hT] at h45
    exact (tells_bytes _ _ _ _ _ h45).2 rfl
  have key : ∀ f, T.length ≤ f → decT f T (basicOf l) 128 0 72 = some l := by
    intro f hf
    have := decT_tells (basicOf l).length (deltas l l.length 128 0 (basicOf l).length) f (basicOf l) 128 0 72 (by rw [hT]; exact hf) (.inl ⟨rfl, rfl⟩) (by rw [hrun]; exact hs) (by rw [hrun]; exact hl)
    rw [hT, hrun] at this
    exact this
  by_cases hb : (basicOf l).length = 0
  · have e : penc l = T := by
      unfold penc
      rw [hT, if_pos hb, List.eq_nil_of_length_eq_zero hb]
      rfl
    rw [e, hyph_none hT45, if_neg (by omega)]
    have := key T.length (Nat.le_refl _)
    rw [List.eq_nil_of_length_eq_zero hb] at this
    exact this
  · have e : penc l = (basicOf l).map UInt8.ofNat ++ 45 :: T := by
      unfold penc
      rw [hT, if_neg hb]
      simp
    rw [e, hyph_at hT45, if_pos (by rw [List.length_map]; omega)]
    have e1 : (((basicOf l).map UInt8.ofNat).length : Int).toNat = ((basicOf l).map UInt8.ofNat).length := by omega
    rw [e1, List.take_left' rfl, ofNat_back (basicOf_small l)]
    have e2 : ((basicOf l).map UInt8.ofNat ++ 45 :: T).drop (((basicOf l).map UInt8.ofNat).length + 1) = T := by
      rw [List.drop_append, List.drop_eq_nil_of_le (by omega)]
      simp
    rw [e2]
    exact key _ (by simp; omega)

theorem lower_pre (s : List UInt8) : (s.map lower).length = s.length := by simp
theorem digits_45 {bias k w i j : Nat} {s r : List UInt8} (h : par (45 :: s) bias k w i = some (j, r)) : False := by
  unfold par at h
  rw [if_pos (by decide)] at h
  cases h
/-- A text that is decoded is encoded to what it was, but for capital letters. -/
theorem penc_pdec {s : List UInt8} {l : List Nat} (h : pdec s = some l) : penc l = small s ∧ ∀ x ∈ l, sc x = true := by
  have main : ∀ (f : Nat) (t : List UInt8) (cur : List Nat), (∀ x ∈ cur, x < 128) → decT f t cur 128 0 72 = some l →
      basicOf l = cur ∧ tells cur.length (deltas l l.length 128 0 cur.length) 72 cur.length = t.map lower ∧ ∀ x ∈ l, sc x = true := by
    intro f t cur hcur hd
    obtain ⟨ds, h1, h2, h3⟩ := tells_decT cur.length f t cur 128 0 72 l hd (.inl ⟨rfl, rfl⟩) (fun x hx => sc_small (hcur x hx))
    have hf : basicOf l = cur := by
      have := runD_filter ds cur 128 0 128 (Nat.le_refl _)
      rw [h2] at this
      rw [basicOf, this]
      exact List.filter_eq_self.2 fun x hx => by simpa using hcur x hx
    have hr := run_deltas h3
    rw [hf] at hr
    have hi : Inv cur 128 0 := ⟨fun x hx => Nat.le_of_lt (hcur x hx), fun x hx => hcur x (List.mem_of_mem_drop hx)⟩
    have := runD_inj hi _ _ (hr.trans h2.symm)
    exact ⟨hf, by rw [this, h1], h3⟩
  unfold pdec at h
  split at h
  · cases h
  · rename_i hany
    have hsm : ∀ b ∈ s, b.toNat < 128 := by
      intro b hb
      have := List.any_eq_false.1 (Bool.eq_false_iff.2 hany) b hb
      simp at this; omega
    by_cases h45 : (45 : UInt8) ∈ s
    · obtain ⟨a, b, rfl, hb⟩ := split_last h45
      rw [hyph_at hb] at h
      split at h
      · rename_i ha
        have e1 : ((a.length : Int)).toNat = a.length := by omega
        have e2 : (a ++ 45 :: b).drop (a.length + 1) = b := by
          rw [List.drop_append, List.drop_eq_nil_of_le (by omega)]
          simp
        rw [e1, List.take_left' rfl, e2] at h
        obtain ⟨g1, g2, g3⟩ := main _ _ _ (fun x hx => by
          obtain ⟨y, hy, rfl⟩ := List.mem_map.1 hx
          exact hsm y (List.mem_append_left _ hy)) h
        refine ⟨?_, g3⟩
        have e3 : ((a.length : Int) + 1).toNat = a.length + 1 := by omega
        unfold penc small
        rw [g1, g2, hyph_at hb, e3, if_neg (by rw [List.length_map]; omega), e2, List.map_map]
        have e4 : a.map (UInt8.ofNat ∘ UInt8.toNat) = a := (List.map_congr_left (g := id) fun x _ => by simp).trans (List.map_id _)
        have e5 : (a ++ 45 :: b).take (a.length + 1) = a ++ [45] := by
          rw [List.take_append, List.take_of_length_le (by omega)]
          simp
        rw [e4, e5]
      · rename_i ha
        exfalso
        obtain rfl : a = [] := List.eq_nil_of_length_eq_zero (by omega)
        simp only [List.nil_append, List.length_cons] at h
        unfold decT at h
        split at h
        · cases h
        · rename_i hp
          exact digits_45 hp
    · rw [hyph_none h45, if_neg (by omega)] at h
      obtain ⟨g1, g2, g3⟩ := main _ _ _ (fun x hx => by cases hx) h
      refine ⟨?_, g3⟩
      unfold penc small
      rw [g1, g2, hyph_none h45]
      simp
/-- Code points below 128 alone are told by themselves, and a hyphen. -/
theorem penc_plain {l : List Nat} (h : ∀ x ∈ l, x < 128) : penc l = l.map UInt8.ofNat ++ (if l.length = 0 then [] else [45]) := by
  have hb : basicOf l = l := List.filter_eq_self.2 fun x hx => by simpa using h x hx
  unfold penc
  rw [hb]
  have : deltas l l.length 128 0 l.length = [] := by
    cases hl : l.length with
    | zero => rfl
    | succ k => unfold deltas; rw [if_neg (by omega)]
  rw [this]
  simp [tells]
end Go.Proofs.Ytmnpefpglpabmaa

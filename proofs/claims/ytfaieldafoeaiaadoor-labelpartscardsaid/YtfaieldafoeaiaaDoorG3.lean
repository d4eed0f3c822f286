/-
  In this text, one behind the other: LMath, NTell, NPut, NRefEnc, NRefEnc2, NRefDec, KBar, KMap, KMade, KComp, KFold, LRef, LOne, HSmall, HFind, JSpan.
-/
import Derived.Deep.RegionHeld3
import Derived.Deep.AppendLies
import Derived.Laws.AppendOwnNone
import Derived.Test.YtfaieldafoeaiaaDoorG2
import Derived.Test.YtfaieldafoeaiaaDoorG1
/-
  The document of layer 6 as plain functions (a name's part, a name), and what follows of them.
-/
namespace Go.Proofs.YtfaieldafoeaiaaDoor

def xnB : List UInt8 := [120, 110, 45, 45]
def xnI : List Int := [120, 110, 45, 45]
def zs (l : List Nat) : List Int := l.map fun n : Nat => (n : Int)
def plainL (l : List Int) : Bool := l.all fun c => decide (c < 128)
def markL (l : List Int) : Bool := match l with
  | [] => false
  | c :: _ => decide (768 ≤ c) && decide (c ≤ 879)
/-- May a part that was told by letters be? -/
def okDec (s : List UInt8) : Bool := match pdec s with
  | none => false
  | some l => !(plainL (zs l)) && !(markL (zs l)) && decide (foldL (zs l) = some (zs l))
/-- One: a part. -/
def lone (l : List Int) : Option (List UInt8) :=
  if l.all scal then
    if l.take 4 = xnI then (if plainL l && okDec (enc (l.drop 4)) then some (enc l) else none)
    else if plainL l then some (enc l)
    else if markL l then none else some (xnB ++ penc (l.map Int.toNat))
  else none
def partsOf : List Int → List (List Int)
  | [] => [[]]
  | c :: l => if c = 46 then [] :: partsOf l else match partsOf l with
    | [] => [[c]]
    | p :: ps => (c :: p) :: ps
def joinB : List (List UInt8) → List UInt8
  | [] => []
  | [p] => p
  | p :: q :: ps => p ++ 46 :: joinB (q :: ps)
def joinI : List (List Int) → List Int
  | [] => []
  | [p] => p
  | p :: q :: ps => p ++ 46 :: joinI (q :: ps)
def mapOne : List (List Int) → Option (List (List UInt8))
  | [] => some []
  | p :: ps => match lone p, mapOne ps with
    | some x, some xs => some (x :: xs)
    | _, _ => none
/-- All: a name; what forbids it (0: nothing), and what it is told as. -/
def lall (l : List Int) : Nat × List UInt8 := match foldL l with
  | none => (2, [])
  | some f => match mapOne (partsOf f) with
    | none => (2, [])
    | some ps => if joinB ps = [] then (3, []) else (0, joinB ps)

theorem partsOf_ne (l : List Int) : partsOf l ≠ [] := by
  cases l with
  | nil => simp [partsOf]
  | cons c l =>
    unfold partsOf
    split
    · simp
    · split <;> simp
theorem partsOf_dot (l : List Int) : partsOf (46 :: l) = [] :: partsOf l := by simp [partsOf]
theorem partsOf_cons {c : Int} (h : c ≠ 46) {l p : List Int} {ps : List (List Int)} (hl : partsOf l = p :: ps) : partsOf (c :: l) = (c :: p) :: ps := by
  simp only [partsOf, if_neg h, hl]
theorem partsOf_append (a b : List Int) : partsOf (a ++ 46 :: b) = partsOf a ++ partsOf b := by
  induction a with
  | nil => exact partsOf_dot b
  | cons c a ih =>
    by_cases h : c = 46
    · subst h
      rw [List.cons_append, partsOf_dot, partsOf_dot, ih]; rfl
    · cases hp : partsOf a with
      | nil => exact absurd hp (partsOf_ne a)
      | cons p ps =>
        rw [List.cons_append, partsOf_cons h (p := p) (ps := ps ++ partsOf b) (by rw [ih, hp]; rfl), partsOf_cons h hp]; rfl
theorem partsOf_none {l : List Int} (h : (46 : Int) ∉ l) : partsOf l = [l] := by
  induction l with
  | nil => rfl
  | cons c l ih =>
    rw [List.mem_cons, not_or] at h
    exact partsOf_cons (Ne.symm h.1) (ih h.2)
theorem partsOf_free (l : List Int) : ∀ p ∈ partsOf l, (46 : Int) ∉ p := by
  induction l with
  | nil => intro p hp; simp [partsOf] at hp; subst hp; simp
  | cons c l ih =>
    by_cases h : c = 46
    · subst h
      rw [partsOf_dot]
      intro p hp
      rcases List.mem_cons.1 hp with rfl | hp
      · simp
      · exact ih p hp
    · cases hq : partsOf l with
      | nil => exact absurd hq (partsOf_ne l)
      | cons q qs =>
        rw [partsOf_cons h hq]
        intro p hp
        rcases List.mem_cons.1 hp with rfl | hp
        · rw [List.mem_cons, not_or]
          exact ⟨Ne.symm h, ih q (by rw [hq]; simp)⟩
        · exact ih p (by rw [hq]; simp [hp])
theorem joinI_cons (p : List Int) {ps : List (List Int)} (h : ps ≠ []) : joinI (p :: ps) = p ++ 46 :: joinI ps := by
  cases ps with
  | nil => exact absurd rfl h
  | cons q ps => rfl
theorem joinB_cons (p : List UInt8) {ps : List (List UInt8)} (h : ps ≠ []) : joinB (p :: ps) = p ++ 46 :: joinB ps := by
  cases ps with
  | nil => exact absurd rfl h
  | cons q ps => rfl
theorem join_parts (l : List Int) : joinI (partsOf l) = l := by
  induction l with
  | nil => rfl
  | cons c l ih =>
    by_cases h : c = 46
    · subst h
      rw [partsOf_dot, joinI_cons _ (partsOf_ne l), ih]; rfl
    · cases hq : partsOf l with
      | nil => exact absurd hq (partsOf_ne l)
      | cons q qs =>
        rw [partsOf_cons h hq]
        rw [hq] at ih
        cases qs with
        | nil => exact congrArg (c :: ·) ih
        | cons r rs =>
          rw [joinI_cons _ (by simp)] at ih ⊢
          exact congrArg (c :: ·) ih
theorem parts_join : ∀ (qs : List (List Int)), qs ≠ [] → (∀ q ∈ qs, (46 : Int) ∉ q) → partsOf (joinI qs) = qs := by
  intro qs
  induction qs with
  | nil => intro h; exact absurd rfl h
  | cons q qs ih =>
    intro _ hf
    cases qs with
    | nil => exact partsOf_none (hf q (by simp))
    | cons r rs =>
      rw [joinI_cons _ (by simp), partsOf_append, partsOf_none (hf q (by simp)), ih (by simp) (fun x hx => hf x (List.mem_cons_of_mem _ hx))]; rfl

theorem mapOne_append (a b : List (List Int)) : mapOne (a ++ b) = match mapOne a, mapOne b with
    | some x, some y => some (x ++ y)
    | _, _ => none := by
  induction a with
  | nil => rw [List.nil_append]; cases mapOne b <;> rfl
  | cons p a ih =>
    simp only [List.cons_append, mapOne, ih]
    cases lone p <;> cases mapOne a <;> cases mapOne b <;> rfl
theorem mapOne_length {a : List (List Int)} : ∀ {x : List (List UInt8)}, mapOne a = some x → x.length = a.length := by
  induction a with
  | nil => intro x h; simp [mapOne] at h; subst h; rfl
  | cons p a ih =>
    intro x h
    simp only [mapOne] at h
    cases hl : lone p with
    | none => rw [hl] at h; cases h
    | some y =>
      cases hm : mapOne a with
      | none => rw [hl, hm] at h; cases h
      | some ys =>
        rw [hl, hm] at h
        cases h
        rw [List.length_cons, List.length_cons, ih hm]
theorem joinB_append {x y : List (List UInt8)} (hx : x ≠ []) (hy : y ≠ []) : joinB (x ++ y) = joinB x ++ 46 :: joinB y := by
  induction x with
  | nil => exact absurd rfl hx
  | cons p x ih =>
    cases x with
    | nil => exact joinB_cons p hy
    | cons q x =>
      rw [List.cons_append, joinB_cons p (ps := q :: x ++ y) (by simp), ih (by simp), joinB_cons p (ps := q :: x) (by simp)]
      simp

/-- A dot makes no pair. -/
theorem dot_pairs : ∀ p ∈ pairs, p.1 ≠ 46 ∧ p.2.1 ≠ 46 ∧ p.2.2 ≠ 46 := by decide +kernel
theorem dot_left (c : Int) : madeOf 46 c = 0 := by
  apply Classical.byContradiction
  intro h
  exact (dot_pairs _ (madeIn_ne h)).1 rfl
theorem dot_right (c : Int) : madeOf c 46 = 0 := by
  apply Classical.byContradiction
  intro h
  exact (dot_pairs _ (madeIn_ne h)).2.1 rfl
theorem comp_dot (y : List Int) : ∀ (n : Nat) (x : List Int), x.length ≤ n → comp (x ++ 46 :: y) = comp x ++ 46 :: comp y := by
  have h0 : comp (46 :: y) = 46 :: comp y := comp_cons (fun z _ => dot_left z)
  intro n
  induction n with
  | zero =>
    intro x hx
    obtain rfl : x = [] := List.eq_nil_of_length_eq_zero (by omega)
    exact h0
  | succ n ih =>
    intro x hx
    match x, hx with
    | [], _ => exact h0
    | [a], _ =>
      show comp (a :: 46 :: y) = [a] ++ 46 :: comp y
      rw [comp_keep (dot_right a), h0]; rfl
    | a :: b :: t, hx =>
      simp only [List.length_cons] at hx
      show comp (a :: b :: (t ++ 46 :: y)) = _
      by_cases h : madeOf a b = 0
      · rw [comp_keep h, comp_keep h]
        have := ih (b :: t) (by simp; omega)
        rw [List.cons_append] at this
        rw [this]; rfl
      · rw [comp_pair h, comp_pair h, ih t (by omega)]; rfl
theorem comp_short : ∀ (n : Nat) (l : List Int), l.length ≤ n → (comp l).length ≤ l.length := by
  intro n
  induction n with
  | zero => intro l h; obtain rfl : l = [] := List.eq_nil_of_length_eq_zero (by omega); simp [comp]
  | succ n ih =>
    intro l h
    match l, h with
    | [], _ => simp [comp]
    | [a], _ => simp [comp]
    | a :: b :: t, h =>
      simp only [List.length_cons] at h
      by_cases hm : madeOf a b = 0
      · rw [comp_keep hm]
        have := ih (b :: t) (by simp; omega)
        simp only [List.length_cons] at this ⊢
        omega
      · rw [comp_pair hm]
        have := ih t (by omega)
        simp only [List.length_cons]
        omega
theorem comp_parts {x y : List Int} (h : comp (x ++ 46 :: y) = x ++ 46 :: y) : comp x = x ∧ comp y = y := by
  rw [comp_dot y x.length x (Nat.le_refl _)] at h
  have hl := congrArg List.length h
  have h1 := comp_short x.length x (Nat.le_refl _)
  have h2 := comp_short y.length y (Nat.le_refl _)
  simp only [List.length_append, List.length_cons] at hl
  have := List.append_inj h (by omega)
  exact ⟨this.1, by simpa using this.2⟩
theorem comp_each : ∀ (qs : List (List Int)), comp (joinI qs) = joinI qs → ∀ q ∈ qs, comp q = q := by
  intro qs
  induction qs with
  | nil => intro _ q hq; cases hq
  | cons p qs ih =>
    intro h q hq
    cases qs with
    | nil =>
      rcases List.mem_cons.1 hq with rfl | hq
      · exact h
      · cases hq
    | cons r rs =>
      rw [joinI_cons _ (by simp)] at h
      obtain ⟨h1, h2⟩ := comp_parts h
      rcases List.mem_cons.1 hq with rfl | hq
      · exact h1
      · exact ih h2 q hq
theorem mem_join : ∀ (qs : List (List Int)), ∀ q ∈ qs, ∀ x ∈ q, x ∈ joinI qs := by
  intro qs
  induction qs with
  | nil => intro q hq; cases hq
  | cons p qs ih =>
    intro q hq x hx
    cases qs with
    | nil =>
      rcases List.mem_cons.1 hq with rfl | hq
      · exact hx
      · cases hq
    | cons r rs =>
      rw [joinI_cons _ (by simp), List.mem_append]
      rcases List.mem_cons.1 hq with rfl | hq
      · exact .inl hx
      · exact .inr (List.mem_cons_of_mem _ (ih q hq x hx))
/-- A part of what is folded is folded to itself. -/
theorem fold_part {l f : List Int} (h : foldL l = some f) : ∀ q ∈ partsOf f, foldL q = some q := by
  intro q hq
  obtain ⟨h1, h2⟩ := fold_once h
  have hfx : Fixed f := by
    obtain ⟨m, hm, rfl⟩ := Option.map_eq_some_iff.1 h
    exact fixed_comp m.length m (Nat.le_refl _) (fixed_mapAll hm)
  have hqx : Fixed q := fun x hx => hfx x (by have := mem_join (partsOf f) q hq x hx; rwa [join_parts] at this)
  have hc : comp q = q := comp_each (partsOf f) (by rw [join_parts]; exact h2) q hq
  unfold foldL
  rw [mapAll_fixed hqx]
  show some (comp q) = some q
  rw [hc]

theorem all_folds {l f : List Int} (h : foldL l = some f) : lall f = lall l := by
  unfold lall
  rw [h, (fold_once h).1]
theorem all_bad {l : List Int} (h : foldL l = none) : lall l = (2, []) := by unfold lall; rw [h]
theorem fold_dot {a b x y : List Int} (ha : foldL a = some x) (hb : foldL b = some y) : foldL (a ++ 46 :: b) = some (x ++ 46 :: y) := by
  have h46 : foldL [46] = some [46] := by decide +kernel
  have h1 := fold_join ha h46
  have h2 := fold_join h1 hb
  rw [List.append_assoc, List.singleton_append] at h2
  have e1 : comp (x ++ [46]) = x ++ [46] := by rw [comp_dot [] x.length x (Nat.le_refl _), (fold_once ha).2]; rfl
  rw [h2, e1, List.append_assoc, List.singleton_append, comp_dot _ x.length x (Nat.le_refl _), (fold_once ha).2, (fold_once hb).2]
/-- Two names that may be. -/
theorem all_parts {a b : List Int} {s t : List UInt8} (ha : lall a = (0, s)) (hb : lall b = (0, t)) : lall (a ++ 46 :: b) = (0, s ++ 46 :: t) := by
  unfold lall at ha hb
  cases hx : foldL a with
  | none => rw [hx] at ha; cases ha
  | some x =>
    cases hy : foldL b with
    | none => rw [hy] at hb; cases hb
    | some y =>
      rw [hx] at ha
      rw [hy] at hb
      simp only at ha hb
      cases hp : mapOne (partsOf x) with
      | none => rw [hp] at ha; cases ha
      | some p =>
        cases hq : mapOne (partsOf y) with
        | none => rw [hq] at hb; cases hb
        | some q =>
          rw [hp] at ha
          rw [hq] at hb
          simp only at ha hb
          split at ha
          · cases ha
          · split at hb
            · cases hb
            · cases ha; cases hb
              have np : p ≠ [] := fun e => partsOf_ne x (List.eq_nil_of_length_eq_zero (by rw [← mapOne_length hp, e]; rfl))
              have nq : q ≠ [] := fun e => partsOf_ne y (List.eq_nil_of_length_eq_zero (by rw [← mapOne_length hq, e]; rfl))
              unfold lall
              rw [fold_dot hx hy]
              simp only
              rw [partsOf_append, mapOne_append, hp, hq]
              simp only
              rw [joinB_append np nq, if_neg (by simp)]
/-- One that may not be spoils the whole. -/
theorem all_spoilt {a b : List Int} (h : (lall a).1 = 2 ∨ (lall b).1 = 2) : (lall (a ++ 46 :: b)).1 ≠ 0 := by
  cases hx : foldL a with
  | none =>
    have : foldL (a ++ 46 :: b) = none := fold_none (.inl hx)
    rw [all_bad this]; simp
  | some x =>
    cases hy : foldL b with
    | none =>
      have h46 : foldL (46 :: b) = none := fold_none (a := [46]) (.inr hy)
      have : foldL (a ++ 46 :: b) = none := fold_none (.inr h46)
      rw [all_bad this]; simp
    | some y =>
      have key : mapOne (partsOf x) = none ∨ mapOne (partsOf y) = none := by
        unfold lall at h
        rw [hx, hy] at h
        simp only at h
        cases hp : mapOne (partsOf x) with
        | none => exact .inl rfl
        | some p =>
          cases hq : mapOne (partsOf y) with
          | none => exact .inr rfl
          | some q =>
            rw [hp, hq] at h
            simp only at h
            exfalso
            rcases h with h | h
            · split at h <;> simp at h
            · split at h <;> simp at h
      unfold lall
      rw [fold_dot hx hy]
      simp only
      rw [partsOf_append, mapOne_append]
      rcases key with e | e
      · rw [e]; simp
      · rw [e]
        cases mapOne (partsOf x) <;> simp

/-! Told once more. -/
theorem zs_nats {l : List Int} (h : ∀ c ∈ l, 0 ≤ c) : zs (l.map Int.toNat) = l := by
  unfold zs
  rw [List.map_map]
  refine (List.map_congr_left (g := id) fun c hc => ?_).trans (List.map_id _)
  have := h c hc
  show ((c.toNat : Nat) : Int) = c
  omega
theorem nats_zs (l : List Nat) : (zs l).map Int.toNat = l := by
  unfold zs
  rw [List.map_map]
  exact (List.map_congr_left (g := id) fun c _ => by simp).trans (List.map_id _)
theorem enc_plain {l : List Int} (h0 : ∀ c ∈ l, 0 ≤ c) (h1 : ∀ c ∈ l, c < 128) : enc l = l.map fun c => UInt8.ofNat c.toNat := by
  induction l with
  | nil => rfl
  | cons c l ih =>
    show enc1 c ++ enc l = _
    rw [enc1_one c (h0 c (by simp)) (h1 c (by simp)), ih (fun x hx => h0 x (List.mem_cons_of_mem _ hx)) (fun x hx => h1 x (List.mem_cons_of_mem _ hx))]; rfl
/-- The bytes of a text as numbers. -/
def bz (s : List UInt8) : List Int := s.map fun b => (b.toNat : Int)
theorem enc_bz {s : List UInt8} (h : ∀ b ∈ s, b.toNat < 128) : enc (bz s) = s := by
  rw [enc_plain (fun c hc => by obtain ⟨b, _, rfl⟩ := List.mem_map.1 hc; omega) (fun c hc => by obtain ⟨b, hb, rfl⟩ := List.mem_map.1 hc; have := h b hb; omega)]
  unfold bz
  rw [List.map_map]
  exact (List.map_congr_left (g := id) fun b _ => by simp).trans (List.map_id _)
theorem bz_enc {l : List Int} (h0 : ∀ c ∈ l, 0 ≤ c) (h1 : ∀ c ∈ l, c < 128) : bz (enc l) = l := by
  rw [enc_plain h0 h1]
  unfold bz
  rw [List.map_map]
  refine (List.map_congr_left (g := id) fun c hc => ?_).trans (List.map_id _)
  have a0 := h0 c hc
  have a1 := h1 c hc
  show ((UInt8.ofNat c.toNat).toNat : Int) = c
  rw [ofNat_toNat _ (by omega)]
  omega
theorem scal_low {c : Int} (h0 : 0 ≤ c) (h1 : c < 128) : scal c = true := (scal_iff c).2 ⟨h0, by omega, by omega⟩
/-- A text that is small: no byte from 128 on, no capital letter, no dot. -/
def Small6 (s : List UInt8) : Prop := ∀ b ∈ s, b.toNat < 128 ∧ ¬ (65 ≤ b.toNat ∧ b.toNat ≤ 90)
theorem tellK_small6 (bias : Nat) : ∀ (q k : Nat), Small6 (tellK q bias k) ∧ (46 : UInt8) ∉ tellK q bias k := by
  have hd : ∀ n : Fin 36, (dig n.val).toNat < 128 ∧ ¬ (65 ≤ (dig n.val).toNat ∧ (dig n.val).toNat ≤ 90) ∧ dig n.val ≠ 46 := by decide +kernel
  intro q
  induction q using Nat.strongRecOn with
  | _ q ih =>
    intro k
    have ht := thr_pos k bias
    by_cases h : q < thr k bias
    · rw [tellK_small h]
      have := hd ⟨q, by omega⟩
      simp only at this
      refine ⟨fun b hb => ?_, fun hb => ?_⟩
      · rw [List.mem_singleton] at hb; subst hb; exact ⟨this.1, this.2.1⟩
      · rw [List.mem_singleton] at hb; exact this.2.2 hb.symm
    · rw [tellK_more h]
      have hm : (q - thr k bias) % (36 - thr k bias) < 36 - thr k bias := Nat.mod_lt _ (by omega)
      have := hd ⟨thr k bias + (q - thr k bias) % (36 - thr k bias), by omega⟩
      simp only at this
      obtain ⟨i1, i2⟩ := ih ((q - thr k bias) / (36 - thr k bias)) (by
        have h1 : (q - thr k bias) / (36 - thr k bias) ≤ q - thr k bias := Nat.div_le_self _ _
        omega) (k + 36)
      refine ⟨fun b hb => ?_, fun hb => ?_⟩
      · rcases List.mem_cons.1 hb with rfl | hb
        · exact ⟨this.1, this.2.1⟩
        · exact i1 b hb
      · rcases List.mem_cons.1 hb with e | hb
        · exact this.2.2 e.symm
        · exact i2 hb
theorem tells_small6 (basic : Nat) (ds : List Nat) : ∀ (bias h : Nat), Small6 (tells basic ds bias h) ∧ (46 : UInt8) ∉ tells basic ds bias h := by
  induction ds with
  | nil => intro bias h; exact ⟨fun b hb => by simp [tells] at hb, by simp [tells]⟩
  | cons d ds ih =>
    intro bias h
    obtain ⟨a1, a2⟩ := tellK_small6 bias d 36
    obtain ⟨b1, b2⟩ := ih (adapt d (h + 1) (h == basic)) (h + 1)
    refine ⟨fun b hb => ?_, fun hb => ?_⟩
    · rcases List.mem_append.1 hb with hb | hb
      · exact a1 b hb
      · exact b1 b hb
    · rcases List.mem_append.1 hb with hb | hb
      · exact a2 hb
      · exact b2 hb
theorem penc_small6 {l : List Nat} (h : ∀ x ∈ l, x < 128 → ¬ (65 ≤ x ∧ x ≤ 90) ∧ x ≠ 46) : Small6 (penc l) ∧ (46 : UInt8) ∉ penc l := by
  obtain ⟨t1, t2⟩ := tells_small6 (basicOf l).length (deltas l l.length 128 0 (basicOf l).length) 72 (basicOf l).length
  have hb : ∀ b ∈ (basicOf l).map UInt8.ofNat, (b.toNat < 128 ∧ ¬ (65 ≤ b.toNat ∧ b.toNat ≤ 90)) ∧ b ≠ 46 := by
    intro b hb
    obtain ⟨x, hx, rfl⟩ := List.mem_map.1 hb
    have hx2 := basicOf_small l x hx
    have hx3 := h x (List.mem_filter.1 hx).1 hx2
    have e : (UInt8.ofNat x).toNat = x := by simp; omega
    refine ⟨by rw [e]; exact ⟨hx2, hx3.1⟩, fun e2 => ?_⟩
    rw [e2] at e
    exact hx3.2 (by rw [← e]; rfl)
  have hy : ∀ b ∈ (if (basicOf l).length = 0 then ([] : List UInt8) else [45]), (b.toNat < 128 ∧ ¬ (65 ≤ b.toNat ∧ b.toNat ≤ 90)) ∧ b ≠ 46 := by
    intro b hb
    split at hb
    · cases hb
    · rw [List.mem_singleton] at hb; subst hb; decide
  unfold penc
  refine ⟨fun b hb1 => ?_, fun hb1 => ?_⟩
  · rcases List.mem_append.1 hb1 with hb1 | hb1
    · rcases List.mem_append.1 hb1 with hb1 | hb1
      · exact (hb b hb1).1
      · exact (hy b hb1).1
    · exact t1 b hb1
  · rcases List.mem_append.1 hb1 with hb1 | hb1
    · rcases List.mem_append.1 hb1 with hb1 | hb1
      · exact (hb 46 hb1).2 rfl
      · exact (hy 46 hb1).2 rfl
    · exact t2 hb1
theorem fixed_low {x : Int} (h : ¬ Barred x ∧ mapTo x = [x]) : 0 ≤ x ∧ ¬ (65 ≤ x ∧ x ≤ 90) := by
  obtain ⟨h1, h2⟩ := h
  have h0 : 0 ≤ x := by unfold Barred at h1; omega
  refine ⟨h0, fun hc => ?_⟩
  have := (mapTo_small h0 (by omega)).2
  rw [h2] at this
  unfold lowc at this
  rw [if_pos hc] at this
  simp at this
  omega
/-- A part of what is folded, told: small, without dots, and told as itself. -/
theorem one_again {p : List Int} {x : List UInt8} (h : lone p = some x) (hf : foldL p = some p) (hx : Fixed p) (hd : (46 : Int) ∉ p) (hl : p.length ≤ 250) : Small6 x ∧ (46 : UInt8) ∉ x ∧ lone (bz x) = some x := by
  have hlow : ∀ c ∈ p, 0 ≤ c ∧ ¬ (65 ≤ c ∧ c ≤ 90) := fun c hc => fixed_low (hx c hc)
  have hplain : plainL p = true → x = enc p → Small6 x ∧ (46 : UInt8) ∉ x ∧ lone (bz x) = some x := by
    intro hp e
    subst e
    have h1 : ∀ c ∈ p, c < 128 := fun c hc => by
      have := List.all_eq_true.1 hp c hc
      simpa using this
    have h0 : ∀ c ∈ p, 0 ≤ c := fun c hc => (hlow c hc).1
    refine ⟨?_, ?_, by rw [bz_enc h0 h1]; exact h⟩
    · rw [enc_plain h0 h1]
      intro b hb
      obtain ⟨c, hc, rfl⟩ := List.mem_map.1 hb
      have a0 := h0 c hc
      have a1 := h1 c hc
      have a2 := (hlow c hc).2
      have e : (UInt8.ofNat c.toNat).toNat = c.toNat := by simp; omega
      rw [e]
      omega
    · rw [enc_plain h0 h1]
      intro hb
      obtain ⟨c, hc, e⟩ := List.mem_map.1 hb
      have a0 := h0 c hc
      have a1 := h1 c hc
      have e2 := congrArg UInt8.toNat e
      rw [show (UInt8.ofNat c.toNat).toNat = c.toNat by simp; omega] at e2
      have : c = 46 := by
        have e3 : ((46 : UInt8)).toNat = 46 := rfl
        rw [e3] at e2
        omega
      exact hd (this ▸ hc)
  have h' := h
  unfold lone at h
  split at h
  · rename_i hsc
    split at h
    · split at h
      · rename_i hpo
        rw [Bool.and_eq_true] at hpo
        cases h
        exact hplain hpo.1 rfl
      · cases h
    · split at h
      · rename_i hp
        cases h
        exact hplain hp rfl
      · rename_i hnp
        split at h
        · cases h
        · rename_i hnm
          cases h
          have hscal : ∀ n ∈ p.map Int.toNat, sc n = true := by
            intro n hn
            obtain ⟨c, hc, rfl⟩ := List.mem_map.1 hn
            have := (scal_iff c).1 (List.all_eq_true.1 hsc c hc)
            simp only [sc, Bool.and_eq_true, Bool.or_eq_true, decide_eq_true_eq]
            omega
          have hsm := penc_small6 (l := p.map Int.toNat) (fun n hn _ => by
            obtain ⟨c, hc, rfl⟩ := List.mem_map.1 hn
            have := hlow c hc
            refine ⟨by omega, fun e => ?_⟩
            have : c = 46 := by omega
            exact hd (this ▸ hc))
          have hxs : Small6 (xnB ++ penc (p.map Int.toNat)) := by
            intro b hb
            rcases List.mem_append.1 hb with hb | hb
            · exact (show ∀ b ∈ xnB, b.toNat < 128 ∧ ¬ (65 ≤ b.toNat ∧ b.toNat ≤ 90) by decide) b hb
            · exact hsm.1 b hb
          have hzs : zs (p.map Int.toNat) = p := zs_nats (fun c hc => (hlow c hc).1)
          refine ⟨hxs, ?_, ?_⟩
          · intro hb
            rcases List.mem_append.1 hb with hb | hb
            · exact (show (46 : UInt8) ∉ xnB by decide) hb
            · exact hsm.2 hb
          · have e1 : bz (xnB ++ penc (p.map Int.toNat)) = xnI ++ bz (penc (p.map Int.toNat)) := by unfold bz; rw [List.map_append]; rfl
            have e2 : (bz (xnB ++ penc (p.map Int.toNat))).all scal = true := by
              rw [List.all_eq_true]
              intro c hc
              obtain ⟨b, hb, rfl⟩ := List.mem_map.1 hc
              have := hxs b hb
              exact scal_low (by omega) (by omega)
            have e3 : plainL (bz (xnB ++ penc (p.map Int.toNat))) = true := by
              unfold plainL
              rw [List.all_eq_true]
              intro c hc
              obtain ⟨b, hb, rfl⟩ := List.mem_map.1 hc
              have := hxs b hb
              exact decide_eq_true (by omega)
            have e4 : (bz (xnB ++ penc (p.map Int.toNat))).take 4 = xnI := by rw [e1]; rfl
            have e5 : (bz (xnB ++ penc (p.map Int.toNat))).drop 4 = bz (penc (p.map Int.toNat)) := by rw [e1]; rfl
            have e6 : okDec (penc (p.map Int.toNat)) = true := by
              unfold okDec
              rw [pdec_penc hscal (by rw [List.length_map]; exact hl)]
              simp only
              rw [hzs, decide_eq_true hf, Bool.and_true, Bool.and_eq_true, Bool.not_eq_true', Bool.not_eq_true']
              exact ⟨by simpa using hnp, by simpa using hnm⟩
            unfold lone
            rw [if_pos e2, if_pos e4, e5, enc_bz (fun b hb => (hsm.1 b hb).1), e6, e3]
            simp only [Bool.and_true, if_true]
            rw [enc_bz (fun b hb => (hxs b hb).1)]
  · cases h
theorem mapOne_again : ∀ (ps : List (List Int)) (xs : List (List UInt8)), mapOne ps = some xs → (∀ p ∈ ps, foldL p = some p ∧ Fixed p ∧ (46 : Int) ∉ p ∧ p.length ≤ 250) → (∀ x ∈ xs, Small6 x ∧ (46 : UInt8) ∉ x) ∧ mapOne (xs.map bz) = some xs := by
  intro ps
  induction ps with
  | nil => intro xs h _; simp [mapOne] at h; subst h; exact ⟨by simp, rfl⟩
  | cons p ps ih =>
    intro xs h hp
    simp only [mapOne] at h
    cases hl : lone p with
    | none => rw [hl] at h; cases h
    | some y =>
      cases hm : mapOne ps with
      | none => rw [hl, hm] at h; cases h
      | some ys =>
        rw [hl, hm] at h
        cases h
        obtain ⟨q1, q2, q3, q4⟩ := hp p (by simp)
        obtain ⟨a1, a2, a3⟩ := one_again hl q1 q2 q3 q4
        obtain ⟨b1, b2⟩ := ih ys hm (fun q hq => hp q (List.mem_cons_of_mem _ hq))
        refine ⟨fun x hx => ?_, ?_⟩
        · rcases List.mem_cons.1 hx with rfl | hx
          · exact ⟨a1, a2⟩
          · exact b1 x hx
        · simp only [List.map_cons, mapOne, a3, b2]
theorem bz_join : ∀ (xs : List (List UInt8)), bz (joinB xs) = joinI (xs.map bz) := by
  intro xs
  induction xs with
  | nil => rfl
  | cons x xs ih =>
    cases xs with
    | nil => rfl
    | cons y xs =>
      rw [joinB_cons _ (by simp), List.map_cons, joinI_cons _ (by simp), ← ih]
      unfold bz
      rw [List.map_append, List.map_cons]; rfl
theorem small_join : ∀ (xs : List (List UInt8)), (∀ x ∈ xs, Small6 x) → Small6 (joinB xs) := by
  intro xs
  induction xs with
  | nil => intro _ b hb; cases hb
  | cons x xs ih =>
    intro h
    cases xs with
    | nil => exact h x (by simp)
    | cons y xs =>
      rw [joinB_cons _ (by simp)]
      intro b hb
      rcases List.mem_append.1 hb with hb | hb
      · exact h x (by simp) b hb
      · rcases List.mem_cons.1 hb with rfl | hb
        · decide
        · exact ih (fun z hz => h z (List.mem_cons_of_mem _ hz)) b hb
theorem part_length : ∀ (qs : List (List Int)), ∀ q ∈ qs, q.length ≤ (joinI qs).length := by
  intro qs
  induction qs with
  | nil => intro q hq; cases hq
  | cons p qs ih =>
    intro q hq
    cases qs with
    | nil =>
      rcases List.mem_cons.1 hq with rfl | hq
      · exact Nat.le_refl _
      · cases hq
    | cons r rs =>
      rw [joinI_cons _ (by simp), List.length_append, List.length_cons]
      rcases List.mem_cons.1 hq with rfl | hq
      · omega
      · have := ih q hq
        omega
/-- What a name is told as is told as itself. -/
theorem all_once {l f : List Int} {s : List UInt8} (h : lall l = (0, s)) (hf : foldL l = some f) (hl : f.length ≤ 250) : Small6 s ∧ lall (bz s) = (0, s) := by
  have h' := h
  unfold lall at h
  rw [hf] at h
  simp only at h
  cases hm : mapOne (partsOf f) with
  | none => rw [hm] at h; cases h
  | some xs =>
    rw [hm] at h
    simp only at h
    split at h
    · cases h
    · rename_i hne
      cases h
      have hfx : Fixed f := by
        obtain ⟨m, hm2, rfl⟩ := Option.map_eq_some_iff.1 hf
        exact fixed_comp m.length m (Nat.le_refl _) (fixed_mapAll hm2)
      obtain ⟨a1, a2⟩ := mapOne_again (partsOf f) xs hm (fun p hp => ⟨fold_part hf p hp, fun x hx => hfx x (by have := mem_join (partsOf f) p hp x hx; rwa [join_parts] at this), partsOf_free f p hp, by
        have := part_length (partsOf f) p hp
        rw [join_parts] at this
        omega⟩)
      have hsm := small_join xs (fun x hx => (a1 x hx).1)
      refine ⟨hsm, ?_⟩
      have hfold : foldL (bz (joinB xs)) = some (bz (joinB xs)) := by
        rw [fold_small (fun c hc => by
          obtain ⟨b, hb, rfl⟩ := List.mem_map.1 hc
          have := hsm b hb
          omega)]
        congr 1
        refine (List.map_congr_left (g := id) fun c hc => ?_).trans (List.map_id _)
        obtain ⟨b, hb, rfl⟩ := List.mem_map.1 hc
        have := hsm b hb
        show lowc _ = _
        unfold lowc
        rw [if_neg (by omega)]
        rfl
      have hxne : xs ≠ [] := fun e => partsOf_ne f (List.eq_nil_of_length_eq_zero (by rw [← mapOne_length hm, e]; rfl))
      have hparts : partsOf (bz (joinB xs)) = xs.map bz := by
        rw [bz_join]
        refine parts_join _ (by simpa using hxne) (fun q hq => ?_)
        obtain ⟨x, hx, rfl⟩ := List.mem_map.1 hq
        intro hb
        obtain ⟨b, hb, e⟩ := List.mem_map.1 hb
        have : b = 46 := by
          apply UInt8.toNat_inj.1
          have e2 : ((46 : UInt8)).toNat = 46 := rfl
          rw [e2]
          omega
        exact (a1 x hx).2 (this ▸ hb)
      unfold lall
      rw [hfold]
      simp only
      rw [hparts, a2]
      simp only
      rw [if_neg hne]
end Go.Proofs.YtfaieldafoeaiaaDoor

/-
  The document's tell, least, hyphen, weighted, by their contracts.
-/
namespace Go.Proofs.YtfaieldafoeaiaaDoor
open Go.RowKit

def TellPost (l : List UInt8) (w : World) (e : Ending) (w' : World) : Prop := ∃ v, e = .returned v ∧ MadeB w w' v l

/-- Numbers as runes. -/
def ints (l : List Nat) : List Int := l.map fun n : Nat => (n : Int)
theorem ints_length (l : List Nat) : (ints l).length = l.length := by simp [ints]
theorem ints_at (l : List Nat) (k : Nat) (h : k < l.length) : (ints l)[k]? = some ((l[k] : Nat) : Int) := by simp [ints, h]

def leastG (n m : Nat) (l : List Nat) : Nat := l.foldl (fun m c => if n ≤ c ∧ c < m then c else m) m
theorem leastG_succ (n m : Nat) (l : List Nat) (k : Nat) (h : k < l.length) : leastG n m (l.take (k + 1)) = if n ≤ l[k] ∧ l[k] < leastG n m (l.take k) then l[k] else leastG n m (l.take k) := by
  unfold leastG
  rw [List.take_succ_eq_append_getElem h, List.foldl_append]
  rfl

theorem drop_cons (s : ByteArray) (k : Nat) (h : k < s.size) : s.data.toList.drop k = s[k]'h :: s.data.toList.drop (k + 1) := by
  rw [List.drop_eq_getElem_cons (by simpa using h)]
  rfl
theorem byte_eq {b : UInt8} {n : Nat} (hn : n < 256) : ((b.toNat : Int) == (n : Int)) = true ↔ b = UInt8.ofNat n := by
  rw [beq_iff_eq]
  constructor
  · intro h
    apply UInt8.toNat_inj.1
    have : b.toNat = n := by omega
    rw [this]
    simp
    omega
  · rintro rfl
    simp
    omega

/-- What weighted tells: the number and the place behind it; twice 0 where something is wrong. -/
def wres (s : ByteArray) (o : Option (Nat × List UInt8)) : Nat × Nat := match o with
  | none => (0, 0)
  | some (j, r) => (j, s.size - r.length)
theorem par_nil (bias k w i : Nat) : par [] bias k w i = none := rfl
theorem par_cons (c : UInt8) (s : List UInt8) (bias k w i : Nat) : par (c :: s) bias k w i =
    if dval c.toNat < 0 then none
    else if 1099511627776 < i + (dval c.toNat).toNat * w then none
    else if (dval c.toNat).toNat < thr k bias then some (i + (dval c.toNat).toNat * w, s)
    else if 1099511627776 < w * (36 - thr k bias) then none
    else par s bias (k + 36) (w * (36 - thr k bias)) (i + (dval c.toNat).toNat * w) := rfl
theorem dval_lt (c : UInt8) : dval c.toNat < 36 := by
  by_cases h : 0 ≤ dval c.toNat
  · have := (lower_val c h).2.1
    omega
  · omega

end Go.Proofs.YtfaieldafoeaiaaDoor

/-
  The document's put: a list with a code point at a place.
-/
namespace Go.Proofs.YtfaieldafoeaiaaDoor
open Go.RowKit

theorem ints_ins (l : List Nat) (p n : Nat) : ints (ins l p n) = (ints l).take p ++ [(n : Int)] ++ (ints l).drop p := by
  simp [ints, ins, List.map_take, List.map_drop]

def PutPost (l : List Int) (w : World) (e : Ending) (w' : World) : Prop := ∃ v, e = .returned v ∧ Made w w' v l

end Go.Proofs.YtfaieldafoeaiaaDoor

/-
  The document's Encode of layer 4, by its contract.
-/
namespace Go.Proofs.YtfaieldafoeaiaaDoor
open Go.RowKit

theorem MadeB.form {w w' : World} {v : Value} {l : List UInt8} (h : MadeB w w' v l) : ∃ A c, v = .slice A l.length c := by
  rcases h.1.2 with ⟨rfl, h0⟩ | ⟨g, cap, cur, rfl, _⟩
  · exact ⟨none, 0, by rw [h0]⟩
  · exact ⟨_, _, rfl⟩
/-- 'append(s, x...)', both of them bytes of the call's own, x not empty. -/
theorem append_bytes {ops : Array Oper} {rest : List Oper} {o : Oper} {a : Act} {Q : Exit → Act → World → Prop} {W w0 w : World} (hgd : o.guard = none) (s x : Operand)
    (ho : o.op = .call { callee := .builtin .append, args := #[s, x], argTypes := #[38, 38] })
    (v vx : Value) (l lx : List UInt8) (hs : a.eval s = v) (hx : a.eval x = vx) (h1 : MadeB W w v l) (h2 : MadeB w0 w vx lx) (hne : lx ≠ []) (hl : l.length + lx.length ≤ 100000000000)
    (h : ∀ v' w', MadeB W w' v' (l ++ lx) → wpList Tryd.prog ops Q rest (a.put o.dst v') w') : wpList Tryd.prog ops Q (o :: rest) a w := by
  obtain ⟨i0, hi, hz0, hz1, hz2⟩ := info_parts Tryd.infoB
  rcases h2.1.2 with ⟨_, h0⟩ | ⟨g, cap, cur, rfl, _⟩
  · exact absurd (List.eq_nil_of_length_eq_zero h0) hne
  · refine wpList_append_own w hgd s x _ ho W.heap.size 5 i0 _ 1 1 Tryd.underlying38 hi hz0 hz1 hz2 rfl (by decide) v _ _ hs h1.1 ⟨g, 0, none⟩ lx.length cap (cellsOf lx) hx (by simp [cellsOf]) (fun j u hu => ?_) (cellsOf_one _) (by simp only [maxLen]; omega) (by omega) h1.2.size (fun v' w' hown hg _ => h v' w' ⟨?_, ?_⟩)
    · rw [add_at, Nat.zero_add, h2.1.cellAt (g := g) j (by have := (List.getElem?_eq_some_iff.1 hu).1; simpa [cellsOf] using this)]
      exact hu
    · rw [List.length_append, cellsOf_append]; exact hown
    · exact h1.2.grown hg h1.2.size (own_ge h1.1)

theorem sc_scal (n : Nat) : scal (n : Int) = sc n := by
  unfold scal sc
  by_cases h1 : n ≤ 1114111 <;> by_cases h2 : n < 55296 <;> by_cases h3 : 57343 < n <;> simp [h1, h2, h3] <;> omega
theorem basic_succ_lt (l : List Nat) (k : Nat) (h : k < l.length) (hc : l[k] < 128) : (basicOf (l.take (k + 1))).map UInt8.ofNat = (basicOf (l.take k)).map UInt8.ofNat ++ [UInt8.ofNat l[k]] := by
  unfold basicOf
  rw [List.take_succ_eq_append_getElem h, List.filter_append, List.filter_cons_of_pos (by simpa using hc)]
  simp
theorem basic_succ_ge (l : List Nat) (k : Nat) (h : k < l.length) (hc : ¬ l[k] < 128) : (basicOf (l.take (k + 1))).map UInt8.ofNat = (basicOf (l.take k)).map UInt8.ofNat := by
  unfold basicOf
  rw [List.take_succ_eq_append_getElem h, List.filter_append, List.filter_cons_of_neg (by simpa using hc)]
  simp
theorem basic_length (l : List Nat) : (basicOf l).length ≤ l.length := List.length_filter_le _ _

def TextTwo (t : ByteArray) (n : Int) (w : World) (e : Ending) (w' : World) : Prop := e = .returned (.tuple #[.string t, .int .i64 n]) ∧ Below w.heap.size w w'

end Go.Proofs.YtfaieldafoeaiaaDoor

/-
  The document's Encode of layer 4 at scalars, by its contract.
-/
namespace Go.Proofs.YtfaieldafoeaiaaDoor
open Go.RowKit

theorem filt_count (l : List Nat) (m : Nat) : (l.filter (· < m + 1)).length = (l.filter (· < m)).length + l.count m := by
  induction l with
  | nil => rfl
  | cons c l ih =>
    by_cases h1 : c < m
    · rw [List.filter_cons_of_pos (by simp; omega), List.filter_cons_of_pos (by simpa using h1), List.count_cons_of_ne (by omega)]
      simp only [List.length_cons]; omega
    · by_cases h2 : c = m
      · subst h2
        rw [List.filter_cons_of_pos (by simp), List.filter_cons_of_neg (by simp), List.count_cons_self]
        simp only [List.length_cons]; omega
      · rw [List.filter_cons_of_neg (by simp; omega), List.filter_cons_of_neg (by simp; omega), List.count_cons_of_ne (by omega)]
        exact ih
theorem count_take (l : List Nat) (m k : Nat) (h : k < l.length) : (l.take (k + 1)).count m = (l.take k).count m + (if l[k] = m then 1 else 0) := by
  rw [List.take_succ_eq_append_getElem h, List.count_append, List.count_singleton]
  simp
/-- What is still to be told, inside a pass. -/
def restOf (ln : List Nat) (f m : Nat) (t : List Nat) (d h : Nat) : List Nat := (scan m t d).1 ++ deltas ln f (m + 1) ((scan m t d).2 + 1) (h + (scan m t d).1.length)
theorem rest_nil (ln : List Nat) (f m d h : Nat) : restOf ln f m [] d h = deltas ln f (m + 1) (d + 1) h := rfl
theorem rest_lt (ln : List Nat) (f m c d h : Nat) (t : List Nat) (hc : c < m) : restOf ln f m (c :: t) d h = restOf ln f m t (d + 1) h := by
  unfold restOf; rw [show scan m (c :: t) d = scan m t (d + 1) by simp [scan, hc]]
theorem rest_gt (ln : List Nat) (f m c d h : Nat) (t : List Nat) (hc : m < c) : restOf ln f m (c :: t) d h = restOf ln f m t d h := by
  unfold restOf; rw [show scan m (c :: t) d = scan m t d by simp [scan, show ¬ c < m by omega, show ¬ c = m by omega]]
theorem rest_eq (ln : List Nat) (f m d h : Nat) (t : List Nat) : restOf ln f m (m :: t) d h = d :: restOf ln f m t 0 (h + 1) := by
  unfold restOf
  rw [show scan m (m :: t) d = (d :: (scan m t 0).1, (scan m t 0).2) by simp [scan]]
  simp only [List.cons_append, List.length_cons]
  rw [show h + ((scan m t 0).1.length + 1) = h + 1 + (scan m t 0).1.length by omega]
theorem deltas_more (ln : List Nat) (f n d h : Nat) (hh : h < ln.length) : deltas ln (f + 1) n d h = restOf ln f (least ln n) ln (d + (least ln n - n) * (h + 1)) h := by
  rw [deltas, if_pos hh]; rfl
theorem deltas_done (ln : List Nat) (f n d h : Nat) (hh : ¬ h < ln.length) : deltas ln f n d h = [] := by
  cases f with
  | zero => rfl
  | succ f => rw [deltas, if_neg hh]
theorem tellK_length (bias : Nat) : ∀ (q k : Nat), (tellK q bias k).length ≤ q + 1 := by
  intro q
  induction q using Nat.strongRecOn with
  | _ q ih =>
    intro k
    have ht := thr_pos k bias
    by_cases h : q < thr k bias
    · rw [tellK_small h]; simp
    · rw [tellK_more h, List.length_cons]
      have h1 : (q - thr k bias) / (36 - thr k bias) ≤ q - thr k bias := Nat.div_le_self _ _
      have := ih ((q - thr k bias) / (36 - thr k bias)) (by omega) (k + 36)
      omega

theorem beq_cast (a b : Nat) : ((a : Int) == (b : Int)) = (a == b) := by
  by_cases h : a = b
  · subst h; simp
  · rw [beq_eq_false_iff_ne.2 h, beq_eq_false_iff_ne.2 (by omega)]
theorem filt_same {l : List Nat} {n m : Nat} (h1 : n ≤ m) (h2 : ∀ c ∈ l, n ≤ c → m ≤ c) : l.filter (· < n) = l.filter (· < m) := by
  refine List.filter_congr fun c hc => ?_
  have := h2 c hc
  by_cases h : c < n
  · simp [h]; omega
  · simp [h]; exact this (by omega)

/-- The outer loop: what is told, and what is still to be told. -/
def EncRel (w : World) (ln : List Nat) (v : Value) (n d bias h : Nat) (wr : World) : Prop :=
  ∃ (f : Nat) (acc : List UInt8), MadeB w wr v acc ∧ acc ++ tells (basicOf ln).length (deltas ln f n d h) bias h = penc ln ∧ h = (ln.filter (· < n)).length ∧ ln.length - h ≤ f ∧
    n ≤ 1114112 ∧ d ≤ 251 * n ∧ bias ≤ 1000000000 ∧ acc.length ≤ (h + 1) * 300000000
/-- The inner loop. -/
def PassRel (w : World) (ln : List Nat) (f m x : Nat) (v : Value) (d bias h : Nat) (wr : World) : Prop :=
  ∃ acc : List UInt8, MadeB w wr v acc ∧ acc ++ tells (basicOf ln).length (restOf ln f m (ln.drop x) d h) bias h = penc ln ∧ h = (ln.filter (· < m)).length + (ln.take x).count m ∧
    d ≤ 251 * m + x ∧ bias ≤ 1000000000 ∧ acc.length ≤ (h + 1) * 300000000

end Go.Proofs.YtfaieldafoeaiaaDoor

/-
  The document's Decode of layer 4, by its contract.
-/
namespace Go.Proofs.YtfaieldafoeaiaaDoor
open Go.RowKit

theorem sc_scal' (n : Nat) : scal (n : Int) = sc n := by
  unfold scal sc
  by_cases h1 : n ≤ 1114111 <;> by_cases h2 : n < 55296 <;> by_cases h3 : 57343 < n <;> simp [h1, h2, h3] <;> omega
theorem beq_zero (a : Nat) : ((a : Int) == 0) = (a == 0) := by
  by_cases h : a = 0
  · subst h; rfl
  · rw [beq_eq_false_iff_ne.2 h, beq_eq_false_iff_ne.2 (by omega)]
theorem Made.lower {w w1 w' : World} {v : Value} {l : List Int} (h : Made w1 w' v l) (hb : Below w.heap.size w w1) : Made w w' v l := by
  obtain ⟨⟨h1, h2⟩, h3⟩ := h
  refine ⟨⟨h1, ?_⟩, hb.trans (h3.mono hb.size)⟩
  have := hb.size
  rcases h2 with h2 | ⟨g, cap, cur, rfl, hg, hh, r⟩
  · exact .inl h2
  · exact .inr ⟨g, cap, cur, rfl, by omega, hh, r⟩
theorem Made.form {w w' : World} {v : Value} {l : List Int} (h : Made w w' v l) : ∃ A c, v = .slice A l.length c := by
  obtain ⟨A, c, e, _⟩ := h.runes
  exact ⟨A, c, e⟩
theorem decT_nil (f : Nat) (cur : List Nat) (n i bias : Nat) : decT f [] cur n i bias = some cur := by cases f <;> rfl
theorem decT_none {f : Nat} {s : List UInt8} {cur : List Nat} {n i bias : Nat} (hs : s ≠ []) (h : par s bias 36 1 i = none) : decT (f + 1) s cur n i bias = none := by
  cases s with
  | nil => exact absurd rfl hs
  | cons c s => unfold decT; rw [h]
theorem decT_some {f : Nat} {s r : List UInt8} {cur : List Nat} {n i bias j : Nat} (hs : s ≠ []) (h : par s bias 36 1 i = some (j, r)) : decT (f + 1) s cur n i bias =
    if sc (n + j / (cur.length + 1)) then decT f r (ins cur (j % (cur.length + 1)) (n + j / (cur.length + 1))) (n + j / (cur.length + 1)) (j % (cur.length + 1) + 1) (adapt (j - i) (cur.length + 1) (i == 0)) else none := by
  cases s with
  | nil => exact absurd rfl hs
  | cons c s =>
    conv => lhs; unfold decT
    rw [h]
theorem par_rest {s : ByteArray} {p bias i j : Nat} {r : List UInt8} (h : par (s.data.toList.drop p) bias 36 1 i = some (j, r)) (hp : p ≤ s.size) :
    ∃ p', p < p' ∧ p' ≤ s.size ∧ r = s.data.toList.drop p' ∧ s.size - r.length = p' ∧ i ≤ j ∧ j ≤ 1099511627776 := by
  obtain ⟨q, pre, hj, he, hne, _, hb⟩ := tell_par bias _ _ _ _ _ _ h
  have hl := congrArg List.length he
  rw [List.length_drop, List.length_append] at hl
  have hsz : s.data.toList.length = s.size := by simp
  have hpos := List.length_pos_iff.2 hne
  refine ⟨p + pre.length, by omega, by omega, ?_, by omega, by omega, hb⟩
  rw [← List.drop_drop, he, List.drop_left' rfl]

def DecTwo (o : Option (List Nat)) (w : World) (e : Ending) (w' : World) : Prop := match o with
  | none => e = .returned (.tuple #[.slice none 0 0, .int .i64 2]) ∧ Below w.heap.size w w'
  | some l => ∃ v, e = .returned (.tuple #[v, .int .i64 0]) ∧ Made w w' v (ints l)

/-- The loop: what is left decodes to what the text does. -/
def DecRelN (w : World) (s : ByteArray) (P : Option (List Nat)) (v : Value) (p n i bias : Nat) (wr : World) : Prop :=
  ∃ (f : Nat) (cur : List Nat), Made w wr v (ints cur) ∧ decT f (s.data.toList.drop p) cur n i bias = P ∧ s.size - p ≤ f ∧ p ≤ s.size ∧ cur.length ≤ p ∧ i ≤ cur.length ∧ n ≤ 1114111 ∧ bias ≤ 4398046511104

theorem digits_all {l : List UInt8} {k : Nat} (h : k < l.length) (h1 : ∀ b ∈ l.take k, b.toNat < 128) (h2 : l[k].toNat < 128) : ∀ b ∈ l.take (k + 1), b.toNat < 128 := by
  intro b hb
  rw [List.take_succ_eq_append_getElem h, List.mem_append, List.mem_singleton] at hb
  rcases hb with hb | rfl
  · exact h1 b hb
  · exact h2
theorem pdec_bad {l : List UInt8} {k : Nat} (h : k < l.length) (h2 : 128 ≤ l[k].toNat) : pdec l = none := by
  unfold pdec
  rw [if_pos]
  exact List.any_eq_true.2 ⟨l[k], List.getElem_mem h, by simpa using h2⟩
theorem pdec_good {l : List UInt8} (h : ∀ b ∈ l, b.toNat < 128) : pdec l =
    if 0 < hyph l then decT l.length (l.drop ((hyph l).toNat + 1)) ((l.take (hyph l).toNat).map UInt8.toNat) 128 0 72 else decT l.length l [] 128 0 72 := by
  unfold pdec
  rw [if_neg]
  intro hn
  obtain ⟨b, hb, h1⟩ := List.any_eq_true.1 hn
  have := h b hb
  simp at h1
  omega
theorem hyph_lt (s : List UInt8) : -1 ≤ hyph s ∧ hyph s < s.length ∨ s = [] ∧ hyph s = -1 := by
  by_cases h : s = []
  · subst h; right; exact ⟨rfl, by decide⟩
  · left
    unfold hyph
    have h1 : s.reverse.findIdx (· == 45) ≤ s.reverse.length := List.findIdx_le_length
    have h2 := List.length_pos_iff.2 h
    rw [List.length_reverse] at h1
    omega
theorem toNat_take (l : List UInt8) (k : Nat) (h : k < l.length) : ints ((l.take (k + 1)).map UInt8.toNat) = ints ((l.take k).map UInt8.toNat) ++ [((l[k].toNat : Nat) : Int)] := by
  rw [List.take_succ_eq_append_getElem h]
  simp only [ints, List.map_append, List.map_cons, List.map_nil]

end Go.Proofs.YtfaieldafoeaiaaDoor

/-
  The document's barred, Map, made of layer 5, by their contracts.
-/
namespace Go.Proofs.YtfaieldafoeaiaaDoor
open Go.RowKit

end Go.Proofs.YtfaieldafoeaiaaDoor

/-
  The document's Map of layer 5, by their contracts.
-/
namespace Go.Proofs.YtfaieldafoeaiaaDoor
open Go.RowKit

/-- A slice that a call has laid anew. -/
theorem made_new (w : World) (l : List Int) (v : Value) (hv : v = .slice (some ⟨w.heap.size, 0, none⟩) l.length l.length) (hl : l.length ≤ 1000) : Made w (w.alloc (.cells (l.map (Value.int .i32)).toArray 21)) v l := by
  subst hv
  refine ⟨⟨by simp, .inr ⟨w.heap.size, l.length, (l.map (Value.int .i32)).toArray, rfl, Nat.le_refl _, heap_alloc_new w _, Nat.le_refl _, by simp only [maxLen]; omega, by simp, by simp [List.take_of_length_le]⟩⟩, (Below.refl _ _).alloc (Nat.le_refl _) _⟩
theorem made_one (w : World) (x y : Int) (h : x = y) : Made w (w.alloc (.cells #[.int .i32 x] 21)) (.slice (some ⟨w.heap.size, 0, none⟩) 1 1) [y] := by
  subst h
  exact made_new w [x] _ rfl (by simp)
theorem m_none {c : Int} (h : c = 173 ∨ c = 8203 ∨ c = 8288 ∨ c = 65279) : mapTo c = [] := by unfold mapTo; rw [if_pos h]
theorem m_dot {c : Int} (h : c = 12290 ∨ c = 65377) : mapTo c = [46] := by unfold mapTo; rw [if_neg (by omega), if_pos h]
theorem m_rest {c : Int} (h1 : ¬ (c = 173 ∨ c = 8203 ∨ c = 8288 ∨ c = 65279)) (h2 : ¬ (c = 12290 ∨ c = 65377)) : mapTo c = down (wide c) := by unfold mapTo; rw [if_neg h1, if_neg h2]
theorem wide_in {c : Int} (h : 65281 ≤ c ∧ c ≤ 65374) : wide c = c - 65248 := by unfold wide; rw [if_pos h]
theorem wide_out {c : Int} (h : ¬ (65281 ≤ c ∧ c ≤ 65374)) : wide c = c := by unfold wide; rw [if_neg h]
theorem m_wcap {c : Int} (h : 65313 ≤ c ∧ c ≤ 65338) : mapTo c = [c - 65216] := by
  rw [m_rest (by omega) (by omega), wide_in (by omega)]
  unfold down
  rw [if_pos (by unfold Cap; omega)]
  congr 1; omega
theorem m_wide {c : Int} (h : 65281 ≤ c ∧ c ≤ 65374) (h1 : ¬ (65313 ≤ c ∧ c ≤ 65338)) : mapTo c = [c - 65248] := by
  rw [m_rest (by omega) (by omega), wide_in h]
  unfold down
  rw [if_neg (by unfold Cap; omega), if_neg (by omega), if_neg (by omega)]
theorem m_cap {c : Int} (h : Cap c) : mapTo c = [c + 32] := by
  have h' := h
  unfold Cap at h'
  rw [m_rest (by omega) (by omega), wide_out (by omega)]
  unfold down
  rw [if_pos h]
theorem m_cyr {c : Int} (h : 1024 ≤ c ∧ c ≤ 1039) : mapTo c = [c + 80] := by
  rw [m_rest (by omega) (by omega), wide_out (by omega)]
  unfold down
  rw [if_neg (by unfold Cap; omega), if_pos h]
theorem m_ss {c : Int} (h : c = 7838) : mapTo c = [115, 115] := by subst h; decide
theorem m_self {c : Int} (h1 : ¬ (c = 173 ∨ c = 8203 ∨ c = 8288 ∨ c = 65279)) (h2 : ¬ (c = 12290 ∨ c = 65377)) (h3 : ¬ (65281 ≤ c ∧ c ≤ 65374)) (h4 : ¬ Cap c) (h5 : ¬ (1024 ≤ c ∧ c ≤ 1039)) (h6 : c ≠ 7838) : mapTo c = [c] := by
  rw [m_rest h1 h2, wide_out h3]
  unfold down
  rw [if_neg h4, if_neg h5, if_neg h6]

def MapBad (w : World) (e : Ending) (w' : World) : Prop := e = .returned (.tuple #[.slice none 0 0, .bool false]) ∧ Below w.heap.size w w'
def MapGood (l : List Int) (w : World) (e : Ending) (w' : World) : Prop := ∃ v, e = .returned (.tuple #[v, .bool true]) ∧ Made w w' v l

end Go.Proofs.YtfaieldafoeaiaaDoor

/-
  The document's made of layer 5, by their contracts.
-/
namespace Go.Proofs.YtfaieldafoeaiaaDoor
open Go.RowKit

/-- Where made's two tables lie. -/
def Tabs (w wr : World) : Prop := (∀ k p, pairs[k]? = some p → wr.cell? ⟨w.heap.size, k, none⟩ = some (.int .i32 p.2.2) ∧ wr.cell? ⟨w.heap.size + 1, k, none⟩ = some (.int .i32 p.2.1)) ∧ Below w.heap.size w wr
theorem tabs_new (w : World) : Tabs w ((w.alloc (.cells (pairs.map fun p => Value.int .i32 p.2.2).toArray 21)).alloc (.cells (pairs.map fun p => Value.int .i32 p.2.1).toArray 21)) := by
  refine ⟨fun k p hp => ⟨?_, ?_⟩, ((Below.refl _ _).alloc (Nat.le_refl _) _).alloc (by simp) _⟩
  · have h0 := cells_new w (pairs.map fun p => Value.int .i32 p.2.2) 21 k (.int .i32 p.2.2) (by rw [List.getElem?_map, hp]; rfl)
    rw [add_at, Nat.zero_add] at h0
    have hb : Below (w.alloc (.cells (pairs.map fun p => Value.int .i32 p.2.2).toArray 21)).heap.size (w.alloc (.cells (pairs.map fun p => Value.int .i32 p.2.2).toArray 21)) ((w.alloc (.cells (pairs.map fun p => Value.int .i32 p.2.2).toArray 21)).alloc (.cells (pairs.map fun p => Value.int .i32 p.2.1).toArray 21)) := (Below.refl _ _).alloc (Nat.le_refl _) _
    exact (hb.cell (p := ⟨w.heap.size, k, none⟩) (by simp)).trans h0
  · have h0 := cells_new (w.alloc (.cells (pairs.map fun p => Value.int .i32 p.2.2).toArray 21)) (pairs.map fun p => Value.int .i32 p.2.1) 21 k (.int .i32 p.2.1) (by rw [List.getElem?_map, hp]; rfl)
    rw [add_at, Nat.zero_add] at h0
    simpa using h0
theorem pairs_byte : ∀ p ∈ pairs, 0 ≤ p.1 ∧ p.1 ≤ 255 := by decide +kernel
theorem of_fin : ∀ k : Fin 27, ((({ data := #[97, 97, 97, 97, 97, 97, 99, 101, 101, 101, 101, 105, 105, 105, 105, 110, 111, 111, 111, 111, 111, 117, 117, 117, 117, 121, 121] } : ByteArray)[k.val]'k.isLt).toNat : Int) = (pairs[k.val]'k.isLt).1 := by decide +kernel
theorem madeIn_drop {k : Nat} (h : k < 27) (c m : Int) : madeIn (pairs.drop k) c m = if c = (pairs[k]'h).1 ∧ m = (pairs[k]'h).2.1 then (pairs[k]'h).2.2 else madeIn (pairs.drop (k + 1)) c m := by
  rw [List.drop_eq_getElem_cons (l := pairs) (i := k) h]
  rfl
def MadeR (c m : Int) (w : World) (e : Ending) (w' : World) : Prop := e = .returned (.int .i32 (madeOf c m)) ∧ Below w.heap.size w w'

end Go.Proofs.YtfaieldafoeaiaaDoor

/-
  The document's Compose and Fold of layer 5, by their contracts.
-/
namespace Go.Proofs.YtfaieldafoeaiaaDoor
open Go.RowKit

theorem grown_undrew5 {w w1 : World} {o : Option Nat} (h : w.drew.grownBy w1 o) : w.grownBy w1 o := ⟨h.os, h.tape, h.output, h.size, h.block⟩
theorem below_drew {w w1 : World} (h : Below w.drew.heap.size w.drew w1) : Below w.heap.size w w1 := (below_drewN (Below.refl _ w) 1).trans h
def CompPost (l : List Int) (w : World) (e : Ending) (w' : World) : Prop := ∃ v, e = .returned v ∧ Made w w' v l
theorem drop_two {l : List Int} {k : Nat} (h : k + 1 < l.length) : l.drop k = l[k] :: l[k + 1] :: l.drop (k + 2) := by
  rw [List.drop_eq_getElem_cons (by omega), List.drop_eq_getElem_cons h]

end Go.Proofs.YtfaieldafoeaiaaDoor

/-
  The document's Fold of layer 5, by its contract.
-/
namespace Go.Proofs.YtfaieldafoeaiaaDoor
open Go.RowKit

/-- 'append(s, x...)', both of them rows of runes that the call made. -/
theorem append_made {ops : Array Oper} {rest : List Oper} {o : Oper} {a : Act} {Q : Exit → Act → World → Prop} {W w0 w : World} (hgd : o.guard = none) (s x : Operand)
    (ho : o.op = .call { callee := .builtin .append, args := #[s, x], argTypes := #[22, 22] })
    (v vx : Value) (l lx : List Int) (hs : a.eval s = v) (hx : a.eval x = vx) (h1 : Made W w v l) (h2 : Made w0 w vx lx) (hl : l.length + lx.length ≤ 4000)
    (h : ∀ v' w', Made W w' v' (l ++ lx) → wpList Tryd.prog ops Q rest (a.put o.dst v') w') : wpList Tryd.prog ops Q (o :: rest) a w := by
  obtain ⟨i0, hi, hz0, hz1, hz2⟩ := info_parts Tryd.infoR
  have h2' := h2.1
  rcases h2.1.2 with ⟨rfl, h0⟩ | ⟨g, cap, cur, rfl, _⟩
  · obtain rfl := List.eq_nil_of_length_eq_zero h0
    refine wpList_append_own_none hgd s x _ ho W.heap.size 21 i0 1 Tryd.underlying22 hi v _ _ hs h1.1 hx (h v w (by rw [List.append_nil]; exact h1))
  · refine wpList_append_own w hgd s x _ ho W.heap.size 21 i0 _ 1 4 Tryd.underlying22 hi hz0 hz1 hz2 rfl (by decide) v _ _ hs h1.1 ⟨g, 0, none⟩ lx.length cap (lx.map (Value.int .i32)) hx (by simp) (fun j u hu => ?_) (fun u hu => ?_) (by simp only [maxLen]; omega) (by omega) h1.2.size (fun v' w' hown hg _ => h v' w' ⟨?_, ?_⟩)
    · rw [add_at, Nat.zero_add, h2'.cellAt (g := g) j (by have := (List.getElem?_eq_some_iff.1 hu).1; simpa using this)]
      exact hu
    · obtain ⟨c, _, rfl⟩ := List.mem_map.1 hu
      rfl
    · show w'.ownsRow W.heap.size 21 1 v' _ _
      rw [List.length_append, List.map_append]; exact hown
    · exact h1.2.grown hg h1.2.size (own_ge h1.1)

theorem mapAll_bad {l : List Int} {k : Nat} (h : k < l.length) (hb : Barred l[k]) : mapAll l = none := by
  have e : l = l.take k ++ l[k] :: l.drop (k + 1) := by rw [← List.drop_eq_getElem_cons h, List.take_append_drop]
  rw [e, mapAll_append]
  have : mapAll (l[k] :: l.drop (k + 1)) = none := by unfold mapAll; rw [if_pos hb]
  rw [this]
  cases mapAll (l.take k) <;> rfl
theorem mapAll_step {l m : List Int} {k : Nat} (h : k < l.length) (hb : ¬ Barred l[k]) (hm : mapAll (l.take k) = some m) : mapAll (l.take (k + 1)) = some (m ++ mapTo l[k]) := by
  rw [List.take_succ_eq_append_getElem h, mapAll_append, hm]
  simp [mapAll, hb]
theorem mapTo_length (c : Int) : (mapTo c).length ≤ 2 := by
  unfold mapTo down
  repeat' split
  all_goals simp
theorem comp_length : ∀ (n : Nat) (l : List Int), l.length ≤ n → (comp l).length ≤ l.length := by
  intro n
  induction n with
  | zero => intro l h; rw [List.eq_nil_of_length_eq_zero (l := l) (by omega)]; exact Nat.le_refl _
  | succ n ih =>
    intro l h
    match l, h with
    | [], _ => exact Nat.le_refl _
    | [a], _ => exact Nat.le_refl _
    | a :: b :: t, h =>
      simp only [List.length_cons] at h
      by_cases e : madeOf a b = 0
      · rw [comp_keep e]
        have := ih (b :: t) (by simp only [List.length_cons]; omega)
        simp only [List.length_cons] at this ⊢
        omega
      · rw [comp_pair e]
        have := ih t (by omega)
        simp only [List.length_cons]
        omega
theorem mapAll_length {l m : List Int} (h : mapAll l = some m) : m.length ≤ 2 * l.length := by
  induction l generalizing m with
  | nil => simp only [mapAll, Option.some.injEq] at h; subst h; simp
  | cons c l ih =>
    unfold mapAll at h
    split at h
    · cases h
    · obtain ⟨k, hk, rfl⟩ := Option.map_eq_some_iff.1 h
      have h1 := ih hk
      have h2 := mapTo_length c
      rw [List.length_append, List.length_cons]
      omega

def FoldTwo (o : Option (List Int)) (w : World) (e : Ending) (w' : World) : Prop := match o with
  | none => e = .returned (.tuple #[.slice none 0 0, .int .i64 2]) ∧ Below w.heap.size w w'
  | some l => ∃ v, e = .returned (.tuple #[v, .int .i64 0]) ∧ Made w w' v l
theorem Made.lower5 {w w1 w' : World} {v : Value} {l : List Int} (h : Made w1 w' v l) (hb : Below w.heap.size w w1) : Made w w' v l := by
  obtain ⟨⟨h1, h2⟩, h3⟩ := h
  refine ⟨⟨h1, ?_⟩, hb.trans (h3.mono hb.size)⟩
  have := hb.size
  rcases h2 with h2 | ⟨g, cap, cur, rfl, hg, hh, r⟩
  · exact .inl h2
  · exact .inr ⟨g, cap, cur, rfl, by omega, hh, r⟩

end Go.Proofs.YtfaieldafoeaiaaDoor

/-
  The document's plain, marked, decoded of layer 6, by their contracts.
-/
namespace Go.Proofs.YtfaieldafoeaiaaDoor
open Go.RowKit

theorem plain_no {l : List Int} {k : Nat} (h : k < l.length) (hb : ¬ l[k] < 128) : plainL l = false := by
  unfold plainL
  rw [List.all_eq_false]
  exact ⟨l[k], List.getElem_mem h, by simpa using hb⟩
theorem plain_yes {l : List Int} (h : ∀ c ∈ l, c < 128) : plainL l = true := by
  unfold plainL
  rw [List.all_eq_true]
  exact fun c hc => decide_eq_true (h c hc)
theorem take_all {l : List Int} {k : Nat} (h : k < l.length) {p : Int → Prop} (h1 : ∀ c ∈ l.take k, p c) (h2 : p l[k]) : ∀ c ∈ l.take (k + 1), p c := by
  intro c hc
  rw [List.take_succ_eq_append_getElem h] at hc
  rcases List.mem_append.1 hc with hc | hc
  · exact h1 c hc
  · rw [List.mem_singleton] at hc; subst hc; exact h2

theorem tellK_log6 (bias : Nat) : ∀ (n q k : Nat), q < 10 ^ n → (tellK q bias k).length ≤ n + 1 := by
  intro n
  induction n with
  | zero =>
    intro q k h
    have ht := thr_pos k bias
    rw [tellK_small (by omega)]; simp
  | succ n ih =>
    intro q k h
    have ht := thr_pos k bias
    by_cases hq : q < thr k bias
    · rw [tellK_small hq]; simp
    · rw [tellK_more hq, List.length_cons]
      have h1 : (q - thr k bias) / (36 - thr k bias) ≤ (q - thr k bias) / 10 := Nat.div_le_div_left (by omega) (by omega)
      have h2 : (q - thr k bias) / 10 < 10 ^ n := by
        rw [Nat.pow_succ] at h
        omega
      have := ih ((q - thr k bias) / (36 - thr k bias)) (k + 36) (Nat.lt_of_le_of_lt h1 h2)
      omega
theorem tells_len6 (basic : Nat) (ds : List Nat) : ∀ (bias h : Nat), (∀ d ∈ ds, d < 1000000000) → (tells basic ds bias h).length ≤ 10 * ds.length := by
  induction ds with
  | nil => intro bias h _; simp [tells]
  | cons d ds ih =>
    intro bias h hd
    have h1 := ih (adapt d (h + 1) (h == basic)) (h + 1) (fun x hx => hd x (List.mem_cons_of_mem _ hx))
    have h2 := tellK_log6 bias 9 d 36 (by have := hd d (List.mem_cons_self ..); simpa using this)
    show (tellK d bias 36 ++ _).length ≤ _
    rw [List.length_append, List.length_cons]
    omega
theorem deltas_small6 (ds : List Nat) : ∀ (cur : List Nat) (n i : Nat), (∀ x ∈ (runD ds cur n i).1, sc x = true) → (runD ds cur n i).1.length ≤ 250 → ∀ d ∈ ds, d < 1000000000 := by
  induction ds with
  | nil => intro cur n i _ _ d hd; cases hd
  | cons d ds ih =>
    intro cur n i hs hl x hx
    have hlen : cur.length + (d :: ds).length ≤ 250 := by rw [← runD_length (d :: ds) cur n i]; exact hl
    rw [List.length_cons] at hlen
    rcases List.mem_cons.1 hx with rfl | hx
    · have hin : n + (i + x) / (cur.length + 1) ∈ (runD (x :: ds) cur n i).1 := runD_mem ds _ _ _ _ (mem_ins.2 (.inl rfl))
      have hsc := hs _ hin
      have hle : (i + x) / (cur.length + 1) ≤ 1114111 := by
        have := sc_lt hsc
        exact Nat.le_trans (Nat.le_add_left _ _) (Nat.le_of_lt_succ this)
      have hb1 : i + x < 1114112 * (cur.length + 1) := (Nat.div_lt_iff_lt_mul (by omega)).1 (by omega)
      have hb : i + x < 1114112 * 251 := Nat.lt_of_lt_of_le hb1 (Nat.mul_le_mul_left _ (by omega))
      omega
    · exact ih _ _ _ hs hl x hx
theorem penc_len6 {l : List Nat} (hs : ∀ x ∈ l, sc x = true) (hl : l.length ≤ 250) : (penc l).length ≤ 11 * l.length + 1 := by
  have hr := run_deltas hs
  have h1 := deltas_small6 (deltas l l.length 128 0 (basicOf l).length) (basicOf l) 128 0 (by rw [hr]; exact hs) (by rw [hr]; exact hl)
  have h2 := tells_len6 (basicOf l).length (deltas l l.length 128 0 (basicOf l).length) 72 (basicOf l).length h1
  have h3 := runD_length (deltas l l.length 128 0 (basicOf l).length) (basicOf l) 128 0
  rw [hr] at h3
  have h4 : (basicOf l).length ≤ l.length := List.length_filter_le _ _
  unfold penc
  rw [List.length_append, List.length_append, List.length_map]
  split <;> simp only [List.length_nil, List.length_cons] <;> omega
theorem pdec_len6 {s : List UInt8} {l : List Nat} (h : pdec s = some l) : l.length ≤ s.length := by
  have main : ∀ (f : Nat) (t : List UInt8) (cur : List Nat), (∀ x ∈ cur, x < 128) → decT f t cur 128 0 72 = some l → l.length ≤ cur.length + t.length := by
    intro f t cur hcur hd
    obtain ⟨ds, h1, h2, _⟩ := tells_decT cur.length f t cur 128 0 72 l hd (.inl ⟨rfl, rfl⟩) (fun x hx => sc_small (hcur x hx))
    have h3 := dtells_length cur.length ds 72 cur.length
    rw [← h1, List.length_map] at h3
    rw [← h2, runD_length]
    omega
  unfold pdec at h
  split at h
  · cases h
  · rename_i hany
    have hsm : ∀ b ∈ s, b.toNat < 128 := by
      intro b hb
      have := List.any_eq_false.1 (Bool.eq_false_iff.2 hany) b hb
      simp at this; omega
    split at h
    · have := main _ _ _ (fun x hx => by
        obtain ⟨y, hy, rfl⟩ := List.mem_map.1 hx
        exact hsm y (List.mem_of_mem_take hy)) h
      simp only [List.length_map, List.length_take, List.length_drop] at this
      omega
    · have := main _ _ _ (fun x hx => by cases hx) h
      simpa using this

theorem zs_ints (l : List Nat) : zs l = ints l := rfl
def OkPost (s : ByteArray) (w : World) (e : Ending) (w' : World) : Prop := e = .returned (.int .i64 (if okDec s.data.toList then 0 else 2)) ∧ Below w.heap.size w w'
end Go.Proofs.YtfaieldafoeaiaaDoor

/-
  The document's One of layer 6, by its contract.
-/
namespace Go.Proofs.YtfaieldafoeaiaaDoor
open Go.RowKit

def OnePost (o : Option (List UInt8)) (w : World) (e : Ending) (w' : World) : Prop := match o with
  | none => e = .returned (.tuple #[.string ⟨#[]⟩, .int .i64 2]) ∧ Below w.heap.size w w'
  | some x => e = .returned (.tuple #[.string ⟨x.toArray⟩, .int .i64 0]) ∧ Below w.heap.size w w'
theorem enc_append (a b : List Int) : enc (a ++ b) = enc a ++ enc b := by unfold enc; rw [List.flatMap_append]
theorem fix_all {l : List Int} (h : ∀ c ∈ l, scal c = true) : l.map fix = l := (List.map_congr_left (g := id) fun c hc => fix_scal (h c hc)).trans (List.map_id _)
theorem xn_enc : enc xnI = xnB := by decide +kernel
theorem xn_iff {l : List Int} (h : ∀ c ∈ l, scal c = true) : l.take 4 = xnI ↔ (enc l).take 4 = xnB := by
  constructor
  · intro e
    have : l = xnI ++ l.drop 4 := by rw [← e, List.take_append_drop]
    rw [this, enc_append, xn_enc]; rfl
  · intro e
    have h1 : enc l = enc xnI ++ (enc l).drop 4 := by rw [xn_enc, ← e, List.take_append_drop]
    have h2 := dec_enc0 l
    rw [h1, dec_enc, fix_all h] at h2
    rw [← h2]
    have : xnI.map fix = xnI := by decide
    rw [this]; rfl
theorem xn_rest {l : List Int} (e : l.take 4 = xnI) : (enc l).drop 4 = enc (l.drop 4) := by
  have : l = xnI ++ l.drop 4 := by rw [← e, List.take_append_drop]
  conv => lhs; rw [this, enc_append, xn_enc]
  rfl
theorem all_scal {l : List Int} (h : ∀ c ∈ l, scal c = true) : l.all scal = true := List.all_eq_true.2 h
theorem bytes_eq6 {a b : ByteArray} (h : a.data.toList = b.data.toList) : a = b := by
  obtain ⟨a⟩ := a
  obtain ⟨b⟩ := b
  simp only [Array.toList_inj] at h
  rw [h]
theorem list_data (s : ByteArray) : s.toList = s.data.toList := ByteArray.toList_eq s
theorem take_bytes (s : ByteArray) (k : Nat) : (s.extract 0 k).data.toList = s.data.toList.take k := by
  simp only [ByteArray.data_extract, Array.toList_extract, List.extract_eq_take_drop]
  simp

/-- How many orders of the tests. -/
theorem lone_xn {l : List Int} (hs : ∀ c ∈ l, scal c = true) (hx : l.take 4 = xnI) : lone l = if plainL l && okDec (enc (l.drop 4)) then some (enc l) else none := by
  unfold lone
  rw [if_pos (all_scal hs), if_pos hx]
theorem lone_plain {l : List Int} (hs : ∀ c ∈ l, scal c = true) (hx : l.take 4 ≠ xnI) (hp : plainL l = true) : lone l = some (enc l) := by
  unfold lone
  rw [if_pos (all_scal hs), if_neg hx, if_pos hp]
theorem lone_mark {l : List Int} (hs : ∀ c ∈ l, scal c = true) (hx : l.take 4 ≠ xnI) (hp : plainL l = false) (hm : markL l = true) : lone l = none := by
  unfold lone
  rw [if_pos (all_scal hs), if_neg hx, if_neg (by rw [hp]; simp), if_pos hm]
theorem lone_puny {l : List Int} (hs : ∀ c ∈ l, scal c = true) (hx : l.take 4 ≠ xnI) (hp : plainL l = false) (hm : markL l = false) : lone l = some (xnB ++ penc (l.map Int.toNat)) := by
  unfold lone
  rw [if_pos (all_scal hs), if_neg hx, if_neg (by rw [hp]; simp), if_neg (by rw [hm]; simp)]
theorem lone_bad {l : List Int} (hs : ¬ ∀ c ∈ l, scal c = true) : lone l = none := by
  unfold lone
  rw [if_neg (by rw [List.all_eq_true]; exact hs)]

end Go.Proofs.YtfaieldafoeaiaaDoor

/-
  The small functions of package label, and what they call of the library, by their contracts.
-/
namespace Go.Proofs.YtfaieldafoeaiaaDoor
open Go.RowKit

def far (c : Int) : Bool := decide (128 ≤ c)
def noS (c : Int) : Bool := !(scal c)
theorem far_any (c : Int) (w : World) :
    Calls Tryd.prog 42 #[.int .i32 c] w fun e w' => e = .returned (.bool (far c)) ∧ w = w' := by
  go_enter Tryd.func42, Tryd.ntmps42
  go_wp2
  go_ret
  exact ⟨rfl, rfl⟩
theorem validRune_any (c : Int) (w : World) :
    Calls Tryd.prog 44 #[.int .i32 c] w fun e w' => e = .returned (.bool (scal c)) ∧ w = w' := by
  go_enter Tryd.func44, Tryd.ntmps44
  go_wp2
  all_goals
    go_ret
    refine ⟨ret_bool ?_, rfl⟩
    rw [Bool.eq_iff_iff, scal_iff]
    simp
    try omega
theorem noS_any (c : Int) (w : World) :
    Calls Tryd.prog 25 #[.int .i32 c] w fun e w' => e = .returned (.bool (noS c)) ∧ w = w' := by
  have HC := validRune_any c w
  cases hs : scal c with
  | true =>
    rw [hs] at HC
    have HN : Hid (noS c = false) := by show (!(scal c)) = false; rw [hs]; rfl
    clear hs
    go_enter Tryd.func25, Tryd.ntmps25
    go_wp2_with (go_at_call 44; refine HC.mono ?_; rintro e w' ⟨rfl, rfl⟩)
    go_ret
    exact ⟨by rw [HN.out]; rfl, rfl⟩
  | false =>
    rw [hs] at HC
    have HN : Hid (noS c = true) := by show (!(scal c)) = true; rw [hs]; rfl
    clear hs
    go_enter Tryd.func25, Tryd.ntmps25
    go_wp2_with (go_at_call 44; refine HC.mono ?_; rintro e w' ⟨rfl, rfl⟩)
    go_ret
    exact ⟨by rw [HN.out]; rfl, rfl⟩

set_option maxHeartbeats 400000 in
theorem markFirst_any (A : Option Addr) (l : List Int) (cap : Nat) (w : World) (h : Runes w A l) (hl : l.length ≤ 100000) :
    Calls Tryd.prog 26 #[.slice A l.length cap] w fun e w' => e = .returned (.bool (markL l)) ∧ w = w' := by
  cases l with
  | nil =>
    clear h
    go_enter Tryd.func26, Tryd.ntmps26
    go_wp2
    go_ret
    exact ⟨rfl, rfl⟩
  | cons c l =>
    obtain ⟨b, off, rfl, _, hc⟩ := h 0 c rfl
    clear h
    rw [Nat.add_zero] at hc
    rw [List.length_cons] at hl ⊢
    have HM : Hid (markL (c :: l) = (decide (768 ≤ c) && decide (c ≤ 879))) := rfl
    by_cases h1 : 768 ≤ c <;> by_cases h2 : c ≤ 879
    all_goals
      go_enter Tryd.func26, Tryd.ntmps26
      go_wp2
      all_goals
        go_ret
        refine ⟨ret_bool ?_, rfl⟩
        rw [HM.out]
        simp [h1, h2]

theorem wrap6_any (cs : List ByteArray) (n : Int) (u : TypeId) (x : Value) (w : World) (hch : Chain w cs (some n) (.iface u x)) :
    Calls Tryd.prog 12 #[.iface u x] w fun e w' => ∃ cs u' x', e = .returned (.iface u' x') ∧ Chain w' cs (some n) (.iface u' x') ∧ Below w.heap.size w w' := by
  have HC := Lib.hid hch
  clear hch
  go_enter Tryd.func12, Tryd.ntmps12
  go_wp2_with (go_at_call 34; refine (wrap_held _ _ _ _).mono ?_; rintro e w' ⟨rfl, rfl⟩)
  go_ret
  exact ⟨_, _, _, rfl, HC.out.lay _, (Below.refl _ _).alloc (Nat.le_refl _) _⟩

/-! strings.CutPrefix at the prefix of Punycode. -/
set_option maxHeartbeats 400000 in
theorem hasX_yes (s : ByteArray) (w : World) (hl : s.size ≤ 100000) (h : s.data.toList.take 4 = xnB) :
    Calls Tryd.prog 63 #[.string s, .string ⟨#[120, 110, 45, 45]⟩] w fun e w' => e = .returned (.bool true) ∧ w = w' := by
  have h4 : 4 ≤ s.size := by
    have e := congrArg List.length h
    simp [xnB] at e
    omega
  have he4 : s.extract 0 4 = ⟨#[120, 110, 45, 45]⟩ := bytes_eq6 (by rw [take_bytes, h]; rfl)
  clear h
  go_enter Tryd.func63, Tryd.ntmps63
  go_wp2
  go_ret
  exact ⟨rfl, rfl⟩
set_option maxHeartbeats 400000 in
theorem hasX_no (s : ByteArray) (w : World) (hl : s.size ≤ 100000) (h : s.data.toList.take 4 ≠ xnB) :
    Calls Tryd.prog 63 #[.string s, .string ⟨#[120, 110, 45, 45]⟩] w fun e w' => e = .returned (.bool false) ∧ w = w' := by
  by_cases h4 : 4 ≤ s.size
  · have hne : ((s.extract 0 4).toList == [120, 110, 45, 45]) = false := by
      rw [beq_eq_false_iff_ne]
      intro e
      refine h ?_
      rw [← take_bytes, ← list_data, e]
      rfl
    clear h
    go_enter Tryd.func63, Tryd.ntmps63
    go_wp2
    go_ret
    exact ⟨rfl, rfl⟩
  · clear h
    go_enter Tryd.func63, Tryd.ntmps63
    go_wp2
    go_ret
    exact ⟨rfl, rfl⟩
set_option maxHeartbeats 400000 in
theorem cutX_yes (s : ByteArray) (w : World) (hl : s.size ≤ 100000) (h : s.data.toList.take 4 = xnB) :
    Calls Tryd.prog 22 #[.string s, .string ⟨#[120, 110, 45, 45]⟩] w fun e w' => e = .returned (.tuple #[.string (s.extract 4 s.size), .bool true]) ∧ w = w' := by
  have HC := Lib.hid (hasX_yes s w hl h)
  have h4 : 4 ≤ s.size := by
    have e := congrArg List.length h
    simp [xnB] at e
    omega
  clear h
  have HD : Hid (Calls Tryd.prog 41 #[.string s, .string ⟨#[120, 110, 45, 45]⟩] w fun e w' => e = .returned (.tuple #[.string (s.extract 4 s.size), .bool true]) ∧ w = w') := by
    show Calls _ _ _ _ _
    go_enter Tryd.func41, Tryd.ntmps41
    go_wp2_with (go_at_call 63; refine HC.out.mono ?_; rintro e w' ⟨rfl, rfl⟩)
    go_ret2
    exact ⟨rfl, rfl⟩
  go_enter Tryd.func22, Tryd.ntmps22
  go_wp2_with (go_at_call 41; refine HD.out.mono ?_; rintro e w' ⟨rfl, rfl⟩)
  go_ret2
  exact ⟨rfl, rfl⟩
set_option maxHeartbeats 400000 in
theorem cutX_no (s : ByteArray) (w : World) (hl : s.size ≤ 100000) (h : s.data.toList.take 4 ≠ xnB) :
    Calls Tryd.prog 22 #[.string s, .string ⟨#[120, 110, 45, 45]⟩] w fun e w' => e = .returned (.tuple #[.string s, .bool false]) ∧ w = w' := by
  have HC := Lib.hid (hasX_no s w hl h)
  clear h
  have HD : Hid (Calls Tryd.prog 41 #[.string s, .string ⟨#[120, 110, 45, 45]⟩] w fun e w' => e = .returned (.tuple #[.string s, .bool false]) ∧ w = w') := by
    show Calls _ _ _ _ _
    go_enter Tryd.func41, Tryd.ntmps41
    go_wp2_with (go_at_call 63; refine HC.out.mono ?_; rintro e w' ⟨rfl, rfl⟩)
    go_ret2
    exact ⟨rfl, rfl⟩
  go_enter Tryd.func22, Tryd.ntmps22
  go_wp2_with (go_at_call 41; refine HD.out.mono ?_; rintro e w' ⟨rfl, rfl⟩)
  go_ret2
  exact ⟨rfl, rfl⟩

set_option maxHeartbeats 400000 in
theorem equal_any (A B : Option Addr) (a b : List Int) (c d : Nat) (w : World) (ha : Runes w A a) (hb : Runes w B b) (hl : a.length ≤ 5000) :
    Calls Tryd.prog 46 #[.slice A a.length c, .slice B b.length d] w fun e w' => e = .returned (.bool (same a b)) ∧ ∃ n, w' = w.drewN n := by
  by_cases hlen : a.length = b.length
  · have hne : ((a.length : Int) != (b.length : Int)) = false := by rw [bne_eq_false_iff_eq]; omega
    have HL := Lib.hid hlen
    clear hlen
    go_enter Tryd.func46, Tryd.ntmps46
    go_wp2
    go_loopw [13] (fun i wr => ∃ k : Nat, k ≤ a.length ∧ i = .int .i64 k ∧ (∃ n, wr = w.drewN n) ∧ a.take k = b.take k) (fun i _ => a.length - (intOf i).toNat)
    case atStart => exact ⟨0, Nat.zero_le _, rfl, ⟨0, rfl⟩, rfl⟩
    case round =>
      obtain ⟨k, hk, rfl, ⟨n, rfl⟩, heq⟩ := hrel
      have HE := Lib.hid heq
      clear heq
      by_cases hlt : k < a.length
      · have hlt' : k < b.length := by have := HL.out; omega
        obtain ⟨ba, offa, rfl, _, hca⟩ := ha k a[k] (List.getElem?_eq_getElem hlt)
        obtain ⟨bb, offb, rfl, _, hcb⟩ := hb k b[k] (List.getElem?_eq_getElem hlt')
        clear ha hb
        by_cases hab : a[k] = b[k]
        · have ht : (a[k] != b[k]) = false := by rw [bne_eq_false_iff_eq]; exact hab
          have HF : Hid (a.take (k + 1) = b.take (k + 1)) := by
            show a.take (k + 1) = b.take (k + 1)
            rw [List.take_succ_eq_append_getElem hlt, List.take_succ_eq_append_getElem hlt', hab, HE.out]
          clear hab
          go_wp2_with fail
          go_quiet (fail)
          go_wp2
          go_roundw
          case rel => exact ⟨k + 1, by omega, by go_num, ⟨_, rfl⟩, HF.out⟩
          case measure => simp [intOf]; omega
        · have ht : (a[k] != b[k]) = true := by rw [bne_iff_ne]; exact hab
          have HF := Lib.hid (ne_of_at hlt hlt' hab)
          clear hab
          go_wp2_with fail
          go_quiet (fail)
          go_wp2
          go_ret
          exact ⟨by rw [HF.out]; rfl, _, World.drewN_drewN _ _ _⟩
      · have e : k = a.length := by omega
        have HF : Hid (same a b = true) := by
          show same a b = true
          simp only [same, decide_eq_true_eq]
          have h1 := HE.out
          rw [List.take_of_length_le (by omega), List.take_of_length_le (by have := HL.out; omega)] at h1
          exact h1
        clear e ha hb
        go_wp2
        go_ret
        exact ⟨by rw [HF.out]; rfl, _, rfl⟩
  · have hne : ((a.length : Int) != (b.length : Int)) = true := by rw [bne_iff_ne]; omega
    have HF := Lib.hid (ne_of_len hlen)
    clear hlen ha hb
    go_enter Tryd.func46, Tryd.ntmps46
    go_wp2
    go_ret
    exact ⟨by rw [HF.out]; rfl, 0, rfl⟩

/-- The place of the first dot; -1. -/
def dotAt (l : List Int) : Int := if l.findIdx (fun c => c == 46) < l.length then ((l.findIdx (fun c => c == 46) : Nat) : Int) else -1
theorem dotAt_here {l : List Int} {k : Nat} (h : k < l.length) (hb : l[k] = 46) (hp : ∀ c ∈ l.take k, c ≠ 46) : dotAt l = k := by
  have : l.findIdx (fun c => c == 46) = k := by
    rw [List.findIdx_eq h]
    refine ⟨by simp [hb], fun j hj => ?_⟩
    have := hp l[j] (by rw [List.mem_take_iff_getElem]; exact ⟨j, by omega, rfl⟩)
    simpa using this
  unfold dotAt
  rw [this, if_pos h]
theorem dotAt_none {l : List Int} (hp : ∀ c ∈ l, c ≠ 46) : dotAt l = -1 := by
  have : l.findIdx (fun c => c == 46) = l.length := by
    rw [List.findIdx_eq_length]
    intro c hc
    simpa using hp c hc
  unfold dotAt
  rw [this, if_neg (by omega)]

set_option maxHeartbeats 400000 in
theorem indexDot_any (A : Option Addr) (l : List Int) (cap : Nat) (w : World) (h : Runes w A l) (hl : l.length ≤ 100000) :
    Calls Tryd.prog 36 #[.slice A l.length cap, .int .i32 46] w fun e w' => e = .returned (.int .i64 (dotAt l)) ∧ w = w' := by
  go_enter Tryd.func36, Tryd.ntmps36
  go_wp2
  go_loopw [8] (fun i wr => ∃ k : Nat, k ≤ l.length ∧ i = .int .i64 k ∧ wr = w ∧ ∀ c ∈ l.take k, c ≠ 46) (fun i _ => l.length - (intOf i).toNat)
  case atStart => exact ⟨0, Nat.zero_le _, rfl, rfl, by simp⟩
  case round =>
    obtain ⟨k, hk, rfl, hw, hp⟩ := hrel
    have := hw.symm; subst this
    have HP := Lib.hid hp
    clear hp hw
    by_cases hlt : k < l.length
    · obtain ⟨b, off, rfl, _, hc⟩ := h k l[k] (List.getElem?_eq_getElem hlt)
      clear h
      by_cases hs : l[k] = 46
      · have HN := Lib.hid (dotAt_here hlt hs HP.out)
        rw [hs] at hc
        clear hs
        go_wp2
        go_ret
        exact ⟨by rw [HN.out]; rfl, rfl⟩
      · have HN := Lib.hid (take_snoc (p := fun c => c ≠ 46) hlt HP.out hs)
        have he : (46 == l[k]) = false := by rw [beq_eq_false_iff_ne]; exact fun e => hs e.symm
        clear hs
        go_wp2
        go_roundw
        case rel => exact ⟨k + 1, by omega, by go_num, by first | rfl | trivial, HN.out⟩
        case measure => simp [intOf]; omega
    · have HN : Hid (dotAt l = -1) := dotAt_none (by have := HP.out; rw [List.take_of_length_le (by omega)] at this; exact this)
      clear h
      go_wp2
      go_ret
      exact ⟨by rw [HN.out]; rfl, rfl⟩
end Go.Proofs.YtfaieldafoeaiaaDoor

/-
  slices.IndexFunc and ContainsFunc at the closures of package label; isASCII.
-/
namespace Go.Proofs.YtfaieldafoeaiaaDoor
open Go.RowKit

/-- The place of the first one that is so; -1. -/
def at6 (p : Int → Bool) (l : List Int) : Int := if l.findIdx p < l.length then ((l.findIdx p : Nat) : Int) else -1
theorem at6_here {p : Int → Bool} {l : List Int} {k : Nat} (h : k < l.length) (hb : p l[k] = true) (hp : ∀ c ∈ l.take k, p c = false) : at6 p l = k := by
  have : l.findIdx p = k := by
    rw [List.findIdx_eq h]
    refine ⟨hb, fun j hj => ?_⟩
    exact hp l[j] (by rw [List.mem_take_iff_getElem]; exact ⟨j, by omega, rfl⟩)
  unfold at6
  rw [this, if_pos h]
theorem at6_none {p : Int → Bool} {l : List Int} (hp : ∀ c ∈ l, p c = false) : at6 p l = -1 := by
  have : l.findIdx p = l.length := by
    rw [List.findIdx_eq_length]
    exact hp
  unfold at6
  rw [this, if_neg (by omega)]
theorem any6_at (p : Int → Bool) (l : List Int) : decide (0 ≤ at6 p l) = l.any p := by
  unfold at6
  rw [Bool.eq_iff_iff, decide_eq_true_eq, List.any_eq_true]
  constructor
  · intro h
    split at h
    · rename_i hlt
      exact ⟨_, List.getElem_mem hlt, List.findIdx_getElem (w := hlt)⟩
    · omega
  · rintro ⟨x, hx, hp⟩
    rw [if_pos (List.findIdx_lt_length_of_exists ⟨x, hx, hp⟩)]
    omega

set_option maxHeartbeats 400000 in
theorem index_far (A : Option Addr) (l : List Int) (cap : Nat) (w : World) (h : Runes w A l) (hl : l.length ≤ 100000) :
    Calls Tryd.prog 43 #[.slice A l.length cap, .func (.func 42) #[] #[]] w fun e w' => e = .returned (.int .i64 (at6 far l)) ∧ w = w' := by
  go_enter Tryd.func43, Tryd.ntmps43
  go_wp2
  go_loopw [8] (fun i wr => ∃ k : Nat, k ≤ l.length ∧ i = .int .i64 k ∧ wr = w ∧ ∀ c ∈ l.take k, far c = false) (fun i _ => l.length - (intOf i).toNat)
  case atStart => exact ⟨0, Nat.zero_le _, rfl, rfl, by simp⟩
  case round =>
    obtain ⟨k, hk, rfl, hw, hp⟩ := hrel
    have := hw.symm; subst this
    have HP := Lib.hid hp
    clear hp hw
    by_cases hlt : k < l.length
    · obtain ⟨b, off, rfl, _, hc⟩ := h k l[k] (List.getElem?_eq_getElem hlt)
      clear h
      have HC := far_any l[k] w
      cases hs : far l[k] with
      | false =>
        rw [hs] at HC
        have HN := Lib.hid (take_snoc (p := fun c => far c = false) hlt HP.out hs)
        clear hs
        go_wp2_with (first | (go_at_call 42; refine HC.mono ?_; rintro e w' ⟨rfl, rfl⟩))
        go_roundw
        case rel => exact ⟨k + 1, by omega, by go_num, by first | rfl | trivial, HN.out⟩
        case measure => simp [intOf]; omega
      | true =>
        rw [hs] at HC
        have HN := Lib.hid (at6_here hlt hs HP.out)
        clear hs
        go_wp2_with (first | (go_at_call 42; refine HC.mono ?_; rintro e w' ⟨rfl, rfl⟩))
        go_ret
        exact ⟨by rw [HN.out]; rfl, rfl⟩
    · have HN : Hid (at6 far l = -1) := at6_none (by have := HP.out; rw [List.take_of_length_le (by omega)] at this; exact this)
      clear h
      go_wp2
      go_ret
      exact ⟨by rw [HN.out]; rfl, rfl⟩
theorem has_far (A : Option Addr) (l : List Int) (cap : Nat) (w : World) (h : Runes w A l) (hl : l.length ≤ 100000) :
    Calls Tryd.prog 24 #[.slice A l.length cap, .func (.func 42) #[] #[]] w fun e w' => e = .returned (.bool (l.any far)) ∧ w = w' := by
  have HC := index_far A l cap w h hl
  clear h
  have HB := Lib.hid (any6_at far l)
  go_enter Tryd.func24, Tryd.ntmps24
  go_wp2_with (first | (go_at_call 43; refine HC.mono ?_; rintro e w' ⟨rfl, rfl⟩))
  go_ret
  refine ⟨?_, rfl⟩
  rw [← HB.out]
  try simp

set_option maxHeartbeats 400000 in
theorem index_noS (A : Option Addr) (l : List Int) (cap : Nat) (w : World) (h : Runes w A l) (hl : l.length ≤ 100000) :
    Calls Tryd.prog 43 #[.slice A l.length cap, .func (.func 25) #[] #[]] w fun e w' => e = .returned (.int .i64 (at6 noS l)) ∧ w = w' := by
  go_enter Tryd.func43, Tryd.ntmps43
  go_wp2
  go_loopw [8] (fun i wr => ∃ k : Nat, k ≤ l.length ∧ i = .int .i64 k ∧ wr = w ∧ ∀ c ∈ l.take k, noS c = false) (fun i _ => l.length - (intOf i).toNat)
  case atStart => exact ⟨0, Nat.zero_le _, rfl, rfl, by simp⟩
  case round =>
    obtain ⟨k, hk, rfl, hw, hp⟩ := hrel
    have := hw.symm; subst this
    have HP := Lib.hid hp
    clear hp hw
    by_cases hlt : k < l.length
    · obtain ⟨b, off, rfl, _, hc⟩ := h k l[k] (List.getElem?_eq_getElem hlt)
      clear h
      have HC := noS_any l[k] w
      cases hs : noS l[k] with
      | false =>
        rw [hs] at HC
        have HN := Lib.hid (take_snoc (p := fun c => noS c = false) hlt HP.out hs)
        clear hs
        go_wp2_with (first | (go_at_call 25; refine HC.mono ?_; rintro e w' ⟨rfl, rfl⟩))
        go_roundw
        case rel => exact ⟨k + 1, by omega, by go_num, by first | rfl | trivial, HN.out⟩
        case measure => simp [intOf]; omega
      | true =>
        rw [hs] at HC
        have HN := Lib.hid (at6_here hlt hs HP.out)
        clear hs
        go_wp2_with (first | (go_at_call 25; refine HC.mono ?_; rintro e w' ⟨rfl, rfl⟩))
        go_ret
        exact ⟨by rw [HN.out]; rfl, rfl⟩
    · have HN : Hid (at6 noS l = -1) := at6_none (by have := HP.out; rw [List.take_of_length_le (by omega)] at this; exact this)
      clear h
      go_wp2
      go_ret
      exact ⟨by rw [HN.out]; rfl, rfl⟩
theorem has_noS (A : Option Addr) (l : List Int) (cap : Nat) (w : World) (h : Runes w A l) (hl : l.length ≤ 100000) :
    Calls Tryd.prog 24 #[.slice A l.length cap, .func (.func 25) #[] #[]] w fun e w' => e = .returned (.bool (l.any noS)) ∧ w = w' := by
  have HC := index_noS A l cap w h hl
  clear h
  have HB := Lib.hid (any6_at noS l)
  go_enter Tryd.func24, Tryd.ntmps24
  go_wp2_with (first | (go_at_call 43; refine HC.mono ?_; rintro e w' ⟨rfl, rfl⟩))
  go_ret
  refine ⟨?_, rfl⟩
  rw [← HB.out]
  try simp

theorem any_far (l : List Int) : (!(l.any far)) = plainL l := by
  unfold plainL
  rw [List.not_any_eq_all_not]
  congr 1
  funext c
  simp only [far]
  rw [Bool.eq_iff_iff]
  simp
theorem ascii_any (A : Option Addr) (l : List Int) (cap : Nat) (w : World) (h : Runes w A l) (hl : l.length ≤ 100000) :
    Calls Tryd.prog 23 #[.slice A l.length cap] w fun e w' => e = .returned (.bool (plainL l)) ∧ w = w' := by
  have HC := has_far A l cap w h hl
  clear h
  have HB := Lib.hid (any_far l)
  go_enter Tryd.func23, Tryd.ntmps23
  go_wp2_with (first | (go_at_call 24; refine HC.mono ?_; rintro e w' ⟨rfl, rfl⟩))
  go_ret
  refine ⟨?_, rfl⟩
  rw [← HB.out]
  rfl
end Go.Proofs.YtfaieldafoeaiaaDoor

/-
  spanOf: the span that holds a code point.
-/
namespace Go.Proofs.YtfaieldafoeaiaaDoor
open Go.RowKit

def SpanRow (r : Int × Int × Int × Int) : Value := .agg #[.int .i32 r.1, .int .i32 r.2.1, .int .i64 r.2.2.1, .int .i32 r.2.2.2]
def SpanPost (c : Int) (w : World) (e : Ending) (w' : World) : Prop :=
  ((∃ i, Holds c i ∧ e = .returned (SpanRow (spanAt i))) ∨ (Free c ∧ e = .returned (SpanRow (0, 0, 0, 0)))) ∧ Below w.heap.size w w'

theorem spot_at {w : World} {b : Nat} {cs : Array Value} {t : TypeId} (h : w.heap[b]? = some (.cells cs t (0, 0))) (j : Nat) {x : Value} (hx : cs[j]? = some x) : w.cell? ⟨b, j, none⟩ = some x ∧ w.frozen? ⟨b, j, none⟩ = false := by
  constructor
  · simp [World.cell?, h, hx]
  · simp [World.frozen?, h]
theorem spot_facts {w v : World} {b : Nat} {o : Obj} {cs : Array Value} {t : TypeId} (h : w.heap[b]? = some (.cells cs t (0, 0))) (hv : v = w.alloc o) (j : Nat) {x : Value} (hx : cs[j]? = some x) : v.cell? ⟨b, j, none⟩ = some x ∧ v.frozen? ⟨b, j, none⟩ = false := by
  have hl := (Array.getElem?_eq_some_iff.1 h).1
  have h2 : v.heap[b]? = some (.cells cs t (0, 0)) := by rw [hv, Below.heap_alloc _ _ _ hl]; exact h
  constructor
  · simp [World.cell?, h2, hx]
  · simp [World.frozen?, h2]

set_option maxHeartbeats 1000000 in
set_option maxRecDepth 100000 in
theorem spanOf_any (c : Int) (w : World) (hv : Vars w) : Calls Tryd.prog 57 #[.int .i32 c] w (SpanPost c w) := by
  have HV := Lib.hid hv
  clear hv
  go_enter Tryd.func57, Tryd.ntmps57
  go_wp2
  go_step3
  go_wp2
  go_step3
  go_wp2
  obtain ⟨W2, hW2⟩ : ∃ W2, (w.alloc (.cells #[.int .i32 0, .int .i32 0, .int .i64 0, .int .i32 0] 99)).alloc (.cells #[.int .i32 0, .int .i32 0, .int .i64 0, .int .i32 0] 99) = W2 := ⟨_, rfl⟩
  have hsz : W2.heap.size = w.heap.size + 2 := by rw [← hW2]; simp
  have hB2 : Below w.heap.size w W2 := by rw [← hW2]; exact ((Below.refl _ _).alloc (Nat.le_refl _) _).alloc (by simp) _
  have hk1 : W2.heap[w.heap.size]? = some (.cells #[.int .i32 0, .int .i32 0, .int .i64 0, .int .i32 0] 99 (0, 0)) := by
    rw [← hW2, Below.heap_alloc _ _ _ (by simp)]; exact heap_alloc_new w _
  have hk2 : W2.heap[w.heap.size + 1]? = some (.cells #[.int .i32 0, .int .i32 0, .int .i64 0, .int .i32 0] 99 (0, 0)) := by
    rw [← hW2]; have := heap_alloc_new (w.alloc (.cells #[.int .i32 0, .int .i32 0, .int .i64 0, .int .i32 0] 99)) (.cells #[.int .i32 0, .int .i32 0, .int .i64 0, .int .i32 0] 99); simpa using this
  rw [hW2]
  have H2 := Lib.hid (And.intro hsz (And.intro hB2 (And.intro hk1 hk2)))
  clear hW2 hsz hB2 hk1 hk2
  go_loopw [4, 5] (fun v4 v5 wr => ∃ low high : Nat, low ≤ high ∧ high ≤ 28 ∧ v4 = .int .i64 low ∧ v5 = .int .i64 high ∧ Below W2.heap.size W2 wr ∧ (∀ i, i < low → (spanAt i).2.1 < c) ∧ (∀ i, i < 28 → high ≤ i → c < (spanAt i).1)) (fun v4 v5 _ => (intOf v5).toNat - (intOf v4).toNat)
  case atStart => exact ⟨0, 28, by omega, by omega, rfl, rfl, Below.refl _ _, fun i hi => by omega, fun i hi h => by omega⟩
  case round =>
    obtain ⟨low, high, hlh, hh, rfl, rfl, hb, hlo, hhi⟩ := hrel
    obtain ⟨hsz, hB2, hk1, hk2⟩ := H2.out
    have hbw := hB2.trans (hb.mono hB2.size)
    have hvr := HV.out.below hbw
    have hr1 := (hb.block w.heap.size (by omega)).trans hk1
    have hr2 := (hb.block (w.heap.size + 1) (by omega)).trans hk2
    have hge : w.heap.size + 2 ≤ wr.heap.size := by have := hb.size; omega
    have HH := Lib.hid (And.intro hb (And.intro hbw (And.intro hlo hhi)))
    clear hb hbw hlo hhi hB2 hk1 hk2 hsz
    by_cases hlt : low < high
    · obtain ⟨m, hm⟩ : ∃ m, (low + high) / 2 = m := ⟨_, rfl⟩
      have hm0 : low ≤ m := by omega
      have hm1 : m < high := by omega
      have hmi : ((low : Int) + (high : Int)) / 2 = (m : Int) := by omega
      obtain ⟨c0, c1, c2, c3⟩ := hvr.spans m (by omega)
      clear hvr hm
      by_cases h1 : c < (spanAt m).1
      · go_wp2
        all_goals
          obtain ⟨hb, _, hlo, _⟩ := HH.out
          refine ⟨⟨low, m, by omega, by omega, rfl, by rw [hmi], hb.alloc hb.size _, hlo, high_of h1⟩, ?_⟩
          simp [intOf]; omega
      · by_cases h2 : (spanAt m).2.1 < c
        · have h1' : (spanAt m).1 ≤ c := by omega
          go_wp2
          all_goals
            obtain ⟨hb, _, _, hhi⟩ := HH.out
            refine ⟨⟨m + 1, high, by omega, by omega, by go_num, rfl, hb.alloc hb.size _, low_of (by omega) h2, hhi⟩, ?_⟩
            simp [intOf]; omega
        · have h1' : (spanAt m).1 ≤ c := by omega
          have h2' : c ≤ (spanAt m).2.1 := by omega
          obtain ⟨a, ha⟩ : ∃ a, (spanAt m).1 = a := ⟨_, rfl⟩
          obtain ⟨b, hb⟩ : ∃ a, (spanAt m).2.1 = a := ⟨_, rfl⟩
          obtain ⟨k, hk⟩ : ∃ a, (spanAt m).2.2.1 = a := ⟨_, rfl⟩
          obtain ⟨d, hd⟩ : ∃ a, (spanAt m).2.2.2 = a := ⟨_, rfl⟩
          rw [ha] at c0 h1'
          rw [hb] at c1 h2'
          rw [hk] at c2
          rw [hd] at c3
          have HQ : Hid (Holds c m ∧ spanAt m = (a, b, k, d)) := by
            refine ⟨⟨by omega, by omega, by omega⟩, ?_⟩
            rw [← ha, ← hb, ← hk, ← hd]
          obtain ⟨e0, e1⟩ := spot_facts hr2 (o := .cells #[.int .i32 a, .int .i32 b, .int .i64 k, .int .i32 d] 99) rfl 0 rfl
          obtain ⟨e2, e3⟩ := spot_facts hr2 (o := .cells #[.int .i32 a, .int .i32 b, .int .i64 k, .int .i32 d] 99) rfl 1 rfl
          obtain ⟨e4, e5⟩ := spot_facts hr2 (o := .cells #[.int .i32 a, .int .i32 b, .int .i64 k, .int .i32 d] 99) rfl 2 rfl
          obtain ⟨e6, e7⟩ := spot_facts hr2 (o := .cells #[.int .i32 a, .int .i32 b, .int .i64 k, .int .i32 d] 99) rfl 3 rfl
          obtain ⟨g0, g1⟩ := spot_facts hr1 (o := .cells #[.int .i32 a, .int .i32 b, .int .i64 k, .int .i32 d] 99) rfl 0 rfl
          obtain ⟨g2, g3⟩ := spot_facts hr1 (o := .cells #[.int .i32 a, .int .i32 b, .int .i64 k, .int .i32 d] 99) rfl 1 rfl
          obtain ⟨g4, g5⟩ := spot_facts hr1 (o := .cells #[.int .i32 a, .int .i32 b, .int .i64 k, .int .i32 d] 99) rfl 2 rfl
          obtain ⟨g6, g7⟩ := spot_facts hr1 (o := .cells #[.int .i32 a, .int .i32 b, .int .i64 k, .int .i32 d] 99) rfl 3 rfl
          clear ha hb hk hd h1 h2 hr1 hr2
          go_wp2
          rw [Exit.noGoto_ret]
          refine bodyPost_ret (v := .agg #[.int .i32 a, .int .i32 b, .int .i64 k, .int .i32 d]) ?_ rfl ?_
          · skip
            simp [results, Tryd.results57, go_sem, g0, g2, g4, g6]
          · obtain ⟨hh1, hh2⟩ := HQ.out
            obtain ⟨_, hbw, _, _⟩ := HH.out
            refine ⟨.inl ⟨m, hh1, by rw [hh2]; rfl⟩, ?_⟩
            exact ((((((((hbw.alloc hbw.size _).setCell (by simp) _).setCell (by simp) _).setCell (by simp) _).setCell (by simp) _).setCell (by simp) _).setCell (by simp) _).setCell (by simp) _).setCell (by simp) _
    · obtain ⟨e0, e1⟩ := spot_at hr2 0 rfl
      obtain ⟨e2, e3⟩ := spot_at hr2 1 rfl
      obtain ⟨e4, e5⟩ := spot_at hr2 2 rfl
      obtain ⟨e6, e7⟩ := spot_at hr2 3 rfl
      obtain ⟨g0, g1⟩ := spot_at hr1 0 rfl
      obtain ⟨g2, g3⟩ := spot_at hr1 1 rfl
      obtain ⟨g4, g5⟩ := spot_at hr1 2 rfl
      obtain ⟨g6, g7⟩ := spot_at hr1 3 rfl
      clear hvr hr1 hr2
      go_wp2
      rw [Exit.noGoto_ret]
      refine bodyPost_ret (v := .agg #[.int .i32 0, .int .i32 0, .int .i64 0, .int .i32 0]) ?_ rfl ?_
      · skip
        simp [results, Tryd.results57, go_sem, g0, g2, g4, g6]
      · obtain ⟨_, hbw, hlo, hhi⟩ := HH.out
        refine ⟨.inr ⟨free_of hlo (fun i hi hm => hhi i hi (by omega)), rfl⟩, ?_⟩
        exact (((hbw.setCell (by simp) _).setCell (by simp) _).setCell (by simp) _).setCell (by simp) _
end Go.Proofs.YtfaieldafoeaiaaDoor

/-
  The document of layer 5 as plain functions (the mapping, pairs, folding), and what follows of them.
-/
import Derived.Laws.Cover4
namespace Go.Proofs.YtjhppkbaidcliaaDoor

/-- A number that may not be. -/
def Barred (c : Int) : Prop := c < 0 ∨ 1114111 < c ∨ (55296 ≤ c ∧ c ≤ 57343) ∨ (128 ≤ c ∧ c ≤ 160) ∨ c = 5760 ∨ (8192 ≤ c ∧ c ≤ 8202) ∨ c = 8206 ∨ c = 8207 ∨ (8232 ≤ c ∧ c ≤ 8239) ∨ c = 8287 ∨
  (8294 ≤ c ∧ c ≤ 8297) ∨ (57344 ≤ c ∧ c ≤ 63743) ∨ (64976 ≤ c ∧ c ≤ 65007) ∨ (65529 ≤ c ∧ c ≤ 65535) ∨ 917504 ≤ c
instance (c : Int) : Decidable (Barred c) := by unfold Barred; infer_instance
def wide (c : Int) : Int := if 65281 ≤ c ∧ c ≤ 65374 then c - 65248 else c
def Cap (d : Int) : Prop := (65 ≤ d ∧ d ≤ 90) ∨ (192 ≤ d ∧ d ≤ 222 ∧ d ≠ 215) ∨ (913 ≤ d ∧ d ≤ 937 ∧ d ≠ 930) ∨ (1040 ≤ d ∧ d ≤ 1071)
instance (c : Int) : Decidable (Cap c) := by unfold Cap; infer_instance
def down (d : Int) : List Int := if Cap d then [d + 32] else if 1024 ≤ d ∧ d ≤ 1039 then [d + 80] else if d = 7838 then [115, 115] else [d]
/-- What a number is mapped to that may be. -/
def mapTo (c : Int) : List Int := if c = 173 ∨ c = 8203 ∨ c = 8288 ∨ c = 65279 then [] else if c = 12290 ∨ c = 65377 then [46] else down (wide c)
/-- A letter, a mark, and what they make. -/
def pairs : List (Int × Int × Int) := [(97, 768, 224), (97, 769, 225), (97, 770, 226), (97, 771, 227), (97, 776, 228), (97, 778, 229), (99, 807, 231), (101, 768, 232), (101, 769, 233), (101, 770, 234), (101, 776, 235),
  (105, 768, 236), (105, 769, 237), (105, 770, 238), (105, 776, 239), (110, 771, 241), (111, 768, 242), (111, 769, 243), (111, 770, 244), (111, 771, 245), (111, 776, 246), (117, 768, 249), (117, 769, 250), (117, 770, 251), (117, 776, 252), (121, 769, 253), (121, 776, 255)]
def madeIn (ps : List (Int × Int × Int)) (c m : Int) : Int := match ps with
  | [] => 0
  | p :: ps => if c = p.1 ∧ m = p.2.1 then p.2.2 else madeIn ps c m
/-- What a letter and a mark make; 0: they are no pair. -/
def madeOf (c m : Int) : Int := madeIn pairs c m
def comp : List Int → List Int
  | [] => []
  | [a] => [a]
  | a :: b :: t => if madeOf a b ≠ 0 then madeOf a b :: comp t else a :: comp (b :: t)
/-- What all are mapped to; nothing where one may not be. -/
def mapAll : List Int → Option (List Int)
  | [] => some []
  | c :: l => if Barred c then none else (mapAll l).map (mapTo c ++ ·)
def foldL (l : List Int) : Option (List Int) := (mapAll l).map comp

theorem madeIn_ne {ps : List (Int × Int × Int)} {c m : Int} (h : madeIn ps c m ≠ 0) : (c, m, madeIn ps c m) ∈ ps := by
  induction ps with
  | nil => simp [madeIn] at h
  | cons p ps ih =>
    unfold madeIn at h ⊢
    split
    · rename_i hp
      obtain ⟨p1, p2, p3⟩ := p
      simp only at hp
      obtain ⟨rfl, rfl⟩ := hp
      exact List.mem_cons_self ..
    · rename_i hp
      rw [if_neg hp] at h
      exact List.mem_cons_of_mem _ (ih h)
theorem pairs_apart : ∀ p ∈ pairs, ∀ q ∈ pairs, p.2.2 ≠ q.1 ∧ p.2.2 ≠ q.2.1 ∧ p.1 ≠ q.2.1 := by decide +kernel
theorem pairs_kept : ∀ p ∈ pairs, ¬ Barred p.2.2 ∧ mapTo p.2.2 = [p.2.2] ∧ p.2.2 ≠ 0 ∧ 128 ≤ p.2.1 := by decide +kernel
/-- What is made is no letter. -/
theorem made_left {a b : Int} (h : madeOf a b ≠ 0) (c : Int) : madeOf (madeOf a b) c = 0 := by
  by_cases e : madeOf (madeOf a b) c = 0
  · exact e
  · exact absurd rfl (pairs_apart _ (madeIn_ne h) _ (madeIn_ne e)).1
/-- What is made is no mark. -/
theorem made_right {a b : Int} (h : madeOf a b ≠ 0) (c : Int) : madeOf c (madeOf a b) = 0 := by
  by_cases e : madeOf c (madeOf a b) = 0
  · exact e
  · exact absurd rfl (pairs_apart _ (madeIn_ne h) _ (madeIn_ne e)).2.1
/-- A letter is no mark. -/
theorem letter_mark {a b : Int} (h : madeOf a b ≠ 0) (c : Int) : madeOf c a = 0 := by
  by_cases e : madeOf c a = 0
  · exact e
  · exact absurd rfl (pairs_apart _ (madeIn_ne h) _ (madeIn_ne e)).2.2

theorem comp_pair {a b : Int} (h : madeOf a b ≠ 0) (t : List Int) : comp (a :: b :: t) = madeOf a b :: comp t := by simp [comp, h]
theorem comp_keep {a b : Int} (h : madeOf a b = 0) (t : List Int) : comp (a :: b :: t) = a :: comp (b :: t) := by simp [comp, h]
/-- Behind what makes no pair with the next. -/
theorem comp_cons {a : Int} {l : List Int} (h : ∀ x ∈ l.head?, madeOf a x = 0) : comp (a :: l) = a :: comp l := by
  cases l with
  | nil => rfl
  | cons x l => exact comp_keep (h x (by simp)) l
theorem comp_head (y : Int) (t : List Int) : (comp (y :: t)).head? = some y ∨ ∃ b, madeOf y b ≠ 0 ∧ (comp (y :: t)).head? = some (madeOf y b) := by
  cases t with
  | nil => exact .inl rfl
  | cons b t =>
    by_cases h : madeOf y b = 0
    · rw [comp_keep h]; exact .inl rfl
    · rw [comp_pair h]; exact .inr ⟨b, h, rfl⟩
theorem comp_ne (y : Int) (t : List Int) : comp (y :: t) ≠ [] := by
  rcases comp_head y t with h | ⟨b, _, h⟩ <;> intro e <;> rw [e] at h <;> cases h

theorem comp_left (b : List Int) : ∀ (n : Nat) (a : List Int), a.length ≤ n → comp (comp a ++ b) = comp (a ++ b) := by
  intro n
  induction n with
  | zero => intro a h; rw [List.eq_nil_of_length_eq_zero (l := a) (by omega)]; rfl
  | succ n ih =>
    intro a h
    match a, h with
    | [], _ => rfl
    | [x], _ => rfl
    | x :: y :: t, h =>
      simp only [List.length_cons] at h
      by_cases e : madeOf x y = 0
      · rw [comp_keep e, List.cons_append, comp_cons (a := x)]
        · rw [ih (y :: t) (by simp only [List.length_cons]; omega)]
          show _ = comp (x :: y :: (t ++ b))
          rw [comp_keep e]
          rfl
        · intro z hz
          rw [List.head?_append] at hz
          rcases comp_head y t with hh | ⟨c, hc, hh⟩
          · rw [hh] at hz
            simp at hz
            rw [← hz]; exact e
          · rw [hh] at hz
            simp at hz
            rw [← hz]; exact made_right hc x
      · rw [comp_pair e, List.cons_append, comp_cons (fun z _ => made_left e z), ih t (by omega)]
        show _ = comp (x :: y :: (t ++ b))
        rw [comp_pair e]
theorem comp_idem (a : List Int) : comp (comp a) = comp a := by
  have := comp_left [] a.length a (Nat.le_refl _)
  simpa using this
theorem comp_right (b : List Int) : ∀ (n : Nat) (a : List Int), a.length ≤ n → comp (a ++ comp b) = comp (a ++ b) := by
  intro n
  induction n with
  | zero => intro a h; rw [List.eq_nil_of_length_eq_zero (l := a) (by omega)]; exact comp_idem b
  | succ n ih =>
    intro a h
    match a, h with
    | [], _ => exact comp_idem b
    | [x], _ =>
      show comp (x :: comp b) = comp (x :: b)
      match b with
      | [] => rfl
      | [y] => rfl
      | y :: c :: t =>
        by_cases e : madeOf y c = 0
        · rw [comp_keep e]
          by_cases f : madeOf x y = 0
          · rw [comp_keep f, comp_keep f, ← comp_keep e, comp_idem]
          · rw [comp_pair f, comp_pair f, comp_idem]
        · rw [comp_pair e, comp_keep (made_right e x), comp_cons (fun z _ => made_left e z), comp_idem, comp_keep (letter_mark e x), comp_pair e]
    | x :: y :: t, h =>
      simp only [List.length_cons] at h
      show comp (x :: y :: (t ++ comp b)) = comp (x :: y :: (t ++ b))
      by_cases e : madeOf x y = 0
      · rw [comp_keep e, comp_keep e]
        have := ih (y :: t) (by simp only [List.length_cons]; omega)
        simp only [List.cons_append] at this
        rw [this]
      · rw [comp_pair e, comp_pair e, ih t (by omega)]
theorem comp_join (a b : List Int) : comp (comp a ++ comp b) = comp (a ++ b) := by
  rw [comp_left _ a.length a (Nat.le_refl _), comp_right _ a.length a (Nat.le_refl _)]

theorem mapAll_append (a b : List Int) : mapAll (a ++ b) = (mapAll a).bind fun x => (mapAll b).map (x ++ ·) := by
  induction a with
  | nil => simp [mapAll]
  | cons c a ih =>
    simp only [List.cons_append, mapAll]
    split
    · rfl
    · rw [ih]
      cases mapAll a <;> cases mapAll b <;> simp
theorem map_fix {c : Int} (h : ¬ Barred c) : ∀ x ∈ mapTo c, ¬ Barred x ∧ mapTo x = [x] := by
  have keep : ∀ x : Int, ¬ Barred x → ¬ Cap x → ¬ (1024 ≤ x ∧ x ≤ 1039) → x ≠ 7838 → ¬ (65281 ≤ x ∧ x ≤ 65374) → x ≠ 173 → x ≠ 8203 → x ≠ 8288 → x ≠ 65279 → x ≠ 12290 → x ≠ 65377 → ¬ Barred x ∧ mapTo x = [x] := by
    intro x hb h1 h2 h3 h4 h5 h6 h7 h8 h9 h10
    refine ⟨hb, ?_⟩
    unfold mapTo wide down
    rw [if_neg (by omega), if_neg (by omega), if_neg h4, if_neg h1, if_neg h2, if_neg h3]
  intro x hx
  unfold mapTo at hx
  split at hx
  · cases hx
  · rename_i h1
    split at hx
    · simp only [List.mem_singleton] at hx
      subst hx
      decide
    · rename_i h2
      have hw : ¬ Barred (wide c) ∧ ¬ (65281 ≤ wide c ∧ wide c ≤ 65374) ∧ wide c ≠ 173 ∧ wide c ≠ 8203 ∧ wide c ≠ 8288 ∧ wide c ≠ 65279 ∧ wide c ≠ 12290 ∧ wide c ≠ 65377 := by
        unfold wide
        unfold Barred at h ⊢
        split <;> omega
      generalize wide c = d at hx hw
      obtain ⟨w0, w1, w2, w3, w4, w5, w6, w7⟩ := hw
      unfold down at hx
      unfold Barred at w0
      split at hx
      · rename_i hc
        simp only [List.mem_singleton] at hx
        subst hx
        unfold Cap at hc
        apply keep
        · unfold Barred; omega
        · unfold Cap; omega
        all_goals omega
      · rename_i hc
        split at hx
        · simp only [List.mem_singleton] at hx
          subst hx
          apply keep
          · unfold Barred; omega
          · unfold Cap; omega
          all_goals omega
        · split at hx
          · simp only [List.mem_cons, List.not_mem_nil, or_false, or_self] at hx
            subst hx
            decide
          · simp only [List.mem_singleton] at hx
            subst hx
            exact keep x (by unfold Barred; exact w0) hc (by assumption) (by assumption) w1 w2 w3 w4 w5 w6 w7
/-- A list of numbers that are mapped to themselves. -/
def Fixed (l : List Int) : Prop := ∀ x ∈ l, ¬ Barred x ∧ mapTo x = [x]
theorem mapAll_fixed {l : List Int} (h : Fixed l) : mapAll l = some l := by
  induction l with
  | nil => rfl
  | cons c l ih =>
    have hc := h c (List.mem_cons_self ..)
    unfold mapAll
    rw [if_neg hc.1, ih (fun x hx => h x (List.mem_cons_of_mem _ hx)), hc.2]
    rfl
theorem fixed_mapAll {l m : List Int} (h : mapAll l = some m) : Fixed m := by
  induction l generalizing m with
  | nil => simp only [mapAll, Option.some.injEq] at h; subst h; intro x hx; cases hx
  | cons c l ih =>
    unfold mapAll at h
    split at h
    · cases h
    · rename_i hc
      obtain ⟨k, hk, rfl⟩ := Option.map_eq_some_iff.1 h
      intro x hx
      rcases List.mem_append.1 hx with hx | hx
      · exact map_fix hc x hx
      · exact ih hk x hx
theorem fixed_comp : ∀ (n : Nat) (l : List Int), l.length ≤ n → Fixed l → Fixed (comp l) := by
  intro n
  induction n with
  | zero => intro l h _; rw [List.eq_nil_of_length_eq_zero (l := l) (by omega)]; intro x hx; cases hx
  | succ n ih =>
    intro l h hf
    match l, h, hf with
    | [], _, _ => intro x hx; cases hx
    | [a], _, hf => exact hf
    | a :: b :: t, h, hf =>
      simp only [List.length_cons] at h
      by_cases e : madeOf a b = 0
      · rw [comp_keep e]
        intro x hx
        rcases List.mem_cons.1 hx with rfl | hx
        · exact hf x (List.mem_cons_self ..)
        · exact ih (b :: t) (by simp only [List.length_cons]; omega) (fun y hy => hf y (List.mem_cons_of_mem _ hy)) x hx
      · rw [comp_pair e]
        intro x hx
        rcases List.mem_cons.1 hx with rfl | hx
        · have := pairs_kept _ (madeIn_ne e)
          exact ⟨this.1, this.2.1⟩
        · exact ih t (by omega) (fun y hy => hf y (List.mem_cons_of_mem _ (List.mem_cons_of_mem _ hy))) x hx
/-- What is folded is folded to itself. -/
theorem fold_once {l a : List Int} (h : foldL l = some a) : foldL a = some a ∧ comp a = a := by
  obtain ⟨m, hm, rfl⟩ := Option.map_eq_some_iff.1 h
  have hf := fixed_comp m.length m (Nat.le_refl _) (fixed_mapAll hm)
  refine ⟨?_, comp_idem m⟩
  unfold foldL
  rw [mapAll_fixed hf, Option.map_some, comp_idem]
/-- Numbers behind others fold as each for itself, put together. -/
theorem fold_join {a b x y : List Int} (ha : foldL a = some x) (hb : foldL b = some y) : foldL (a ++ b) = some (comp (x ++ y)) := by
  obtain ⟨m, hm, rfl⟩ := Option.map_eq_some_iff.1 ha
  obtain ⟨k, hk, rfl⟩ := Option.map_eq_some_iff.1 hb
  unfold foldL
  rw [mapAll_append, hm, hk]
  simp only [Option.bind_some, Option.map_some, comp_join]
theorem fold_none {a b : List Int} (h : foldL a = none ∨ foldL b = none) : foldL (a ++ b) = none := by
  unfold foldL at *
  rw [mapAll_append]
  rcases h with h | h
  · rw [Option.map_eq_none_iff.1 h]; rfl
  · rw [Option.map_eq_none_iff.1 h]
    cases mapAll a <;> rfl
theorem comp_small : ∀ (n : Nat) (l : List Int), l.length ≤ n → (∀ x ∈ l, x < 128) → comp l = l := by
  intro n
  induction n with
  | zero => intro l h _; rw [List.eq_nil_of_length_eq_zero (l := l) (by omega)]; rfl
  | succ n ih =>
    intro l h hs
    match l, h, hs with
    | [], _, _ => rfl
    | [a], _, _ => rfl
    | a :: b :: t, h, hs =>
      simp only [List.length_cons] at h
      have e : madeOf a b = 0 := by
        by_cases e : madeOf a b = 0
        · exact e
        · have h1 := (pairs_kept _ (madeIn_ne e)).2.2.2
          have h2 := hs b (List.mem_cons_of_mem _ (List.mem_cons_self ..))
          exact absurd h1 (by show ¬ 128 ≤ b; omega)
      rw [comp_keep e, ih (b :: t) (by simp only [List.length_cons]; omega) (fun y hy => hs y (List.mem_cons_of_mem _ hy))]
/-- A number below 128 folds as its capital one. -/
def lowc (c : Int) : Int := if 65 ≤ c ∧ c ≤ 90 then c + 32 else c
def upc (c : Int) : Int := if 97 ≤ c ∧ c ≤ 122 then c - 32 else c
theorem mapTo_small {c : Int} (h0 : 0 ≤ c) (h1 : c < 128) : ¬ Barred c ∧ mapTo c = [lowc c] := by
  refine ⟨by unfold Barred; omega, ?_⟩
  have hw : wide c = c := by unfold wide; rw [if_neg (by omega)]
  unfold mapTo
  rw [if_neg (by omega), if_neg (by omega), hw]
  unfold down lowc
  by_cases h : 65 ≤ c ∧ c ≤ 90
  · rw [if_pos (by unfold Cap; omega), if_pos h]
  · rw [if_neg (by unfold Cap; omega), if_neg (by omega), if_neg (by omega), if_neg h]
theorem mapAll_small {l : List Int} (h : ∀ x ∈ l, 0 ≤ x ∧ x < 128) : mapAll l = some (l.map lowc) := by
  induction l with
  | nil => rfl
  | cons c l ih =>
    have hc := h c (List.mem_cons_self ..)
    have hm := mapTo_small hc.1 hc.2
    unfold mapAll
    rw [if_neg hm.1, ih (fun x hx => h x (List.mem_cons_of_mem _ hx)), hm.2]
    rfl
theorem lowc_small {c : Int} (h : 0 ≤ c ∧ c < 128) : 0 ≤ lowc c ∧ lowc c < 128 := by unfold lowc; split <;> omega
theorem fold_small {l : List Int} (h : ∀ x ∈ l, 0 ≤ x ∧ x < 128) : foldL l = some (l.map lowc) := by
  unfold foldL
  rw [mapAll_small h, Option.map_some, comp_small _ _ (Nat.le_refl _)]
  intro x hx
  obtain ⟨c, hc, rfl⟩ := List.mem_map.1 hx
  exact (lowc_small (h c hc)).2
theorem lowc_upc (c : Int) : lowc (upc c) = lowc c := by
  unfold upc lowc
  repeat' split
  all_goals omega
end Go.Proofs.YtjhppkbaidcliaaDoor

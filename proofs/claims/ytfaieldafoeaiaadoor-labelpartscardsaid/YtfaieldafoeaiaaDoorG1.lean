/-
  In this text, one behind the other: KMath, Math, Small, First, Lists, Ref, Ref2, Ref3, KVar, FBase, FSmall, FReflect.
-/
import Derived.Laws.Cover4
import Derived.WalkKit
import Derived.WalkSpells
import Derived.WalkLawsBesides
import Derived.Lib.Hide
import Derived.Deep.QuietTactic
import Derived.BigQuiet
import Derived.Deep.Light
import Derived.Maps.AppendAt
import Derived.Laws.BitsLemmas
import Derived.IntWalk
import Derived.LaidEql
import Derived.Stop.Asserts
import Derived.RowKitTokens
import Derived.Deep.LoopGhost
import Derived.Test.YtfaieldafoeaiaaDoorRows
/-
  The document of layer 5 as plain functions (the mapping, pairs, folding), and what follows of them.
-/
namespace Go.Proofs.YtfaieldafoeaiaaDoor

/-- A number that may not be. -/
def Barred (c : Int) : Prop := c < 0 ∨ 1114111 < c ∨ (55296 ≤ c ∧ c ≤ 57343) ∨ (128 ≤ c ∧ c ≤ 160) ∨ c = 5760 ∨ (8192 ≤ c ∧ c ≤ 8202) ∨ c = 8206 ∨ c = 8207 ∨ (8232 ≤ c ∧ c ≤ 8239) ∨ c = 8287 ∨
  (8294 ≤ c ∧ c ≤ 8297) ∨ (57344 ≤ c ∧ c ≤ 63743) ∨ (64976 ≤ c ∧ c ≤ 65007) ∨ (65529 ≤ c ∧ c ≤ 65535) ∨ 917504 ≤ c
instance (c : Int) : Decidable (Barred c) := by unfold Barred; infer_instance
def wide (c : Int) : Int := if 65281 ≤ c ∧ c ≤ 65374 then c - 65248 else c
def Cap (d : Int) : Prop := (65 ≤ d ∧ d ≤ 90) ∨ (192 ≤ d ∧ d ≤ 222 ∧ d ≠ 215) ∨ (913 ≤ d ∧ d ≤ 937 ∧ d ≠ 930) ∨ (1040 ≤ d ∧ d ≤ 1071)
instance (c : Int) : Decidable (Cap c) := by unfold Cap; infer_instance
def down (d : Int) : List Int := if Cap d then [d + 32] else if 1024 ≤ d ∧ d ≤ 1039 then [d + 80] else if d = 7838 then [115, 115] else [d]
/-- What a number is mapped to that may be. -/
def mapTo (c : Int) : List Int := if c = 173 ∨ c = 8203 ∨ c = 8288 ∨ c = 65279 then [] else if c = 12290 ∨ c = 65377 then [46] else down (wide c)
/-- A letter, a mark, and what they make. -/
def pairs : List (Int × Int × Int) := [(97, 768, 224), (97, 769, 225), (97, 770, 226), (97, 771, 227), (97, 776, 228), (97, 778, 229), (99, 807, 231), (101, 768, 232), (101, 769, 233), (101, 770, 234), (101, 776, 235),
  (105, 768, 236), (105, 769, 237), (105, 770, 238), (105, 776, 239), (110, 771, 241), (111, 768, 242), (111, 769, 243), (111, 770, 244), (111, 771, 245), (111, 776, 246), (117, 768, 249), (117, 769, 250), (117, 770, 251), (117, 776, 252), (121, 769, 253), (121, 776, 255)]
def madeIn (ps : List (Int × Int × Int)) (c m : Int) : Int := match ps with
  | [] => 0
  | p :: ps => if c = p.1 ∧ m = p.2.1 then p.2.2 else madeIn ps c m
/-- What a letter and a mark make; 0: they are no pair. -/
def madeOf (c m : Int) : Int := madeIn pairs c m
def comp : List Int → List Int
  | [] => []
  | [a] => [a]
  | a :: b :: t => if madeOf a b ≠ 0 then madeOf a b :: comp t else a :: comp (b :: t)
/-- What all are mapped to; nothing where one may not be. -/
def mapAll : List Int → Option (List Int)
  | [] => some []
  | c :: l => if Barred c then none else (mapAll l).map (mapTo c ++ ·)
def foldL (l : List Int) : Option (List Int) := (mapAll l).map comp

theorem madeIn_ne {ps : List (Int × Int × Int)} {c m : Int} (h : madeIn ps c m ≠ 0) : (c, m, madeIn ps c m) ∈ ps := by
  induction ps with
  | nil => simp [madeIn] at h
  | cons p ps ih =>
    unfold madeIn at h ⊢
    split
    · rename_i hp
      obtain ⟨p1, p2, p3⟩ := p
      simp only at hp
      obtain ⟨rfl, rfl⟩ := hp
      exact List.mem_cons_self ..
    · rename_i hp
      rw [if_neg hp] at h
      exact List.mem_cons_of_mem _ (ih h)
theorem pairs_apart : ∀ p ∈ pairs, ∀ q ∈ pairs, p.2.2 ≠ q.1 ∧ p.2.2 ≠ q.2.1 ∧ p.1 ≠ q.2.1 := by decide +kernel
theorem pairs_kept : ∀ p ∈ pairs, ¬ Barred p.2.2 ∧ mapTo p.2.2 = [p.2.2] ∧ p.2.2 ≠ 0 ∧ 128 ≤ p.2.1 := by decide +kernel
/-- What is made is no letter. -/
theorem made_left {a b : Int} (h : madeOf a b ≠ 0) (c : Int) : madeOf (madeOf a b) c = 0 := by
  by_cases e : madeOf (madeOf a b) c = 0
  · exact e
  · exact absurd rfl (pairs_apart _ (madeIn_ne h) _ (madeIn_ne e)).1
/-- What is made is no mark. -/
theorem made_right {a b : Int} (h : madeOf a b ≠ 0) (c : Int) : madeOf c (madeOf a b) = 0 := by
  by_cases e : madeOf c (madeOf a b) = 0
  · exact e
  · exact absurd rfl (pairs_apart _ (madeIn_ne h) _ (madeIn_ne e)).2.1
/-- A letter is no mark. -/
theorem letter_mark {a b : Int} (h : madeOf a b ≠ 0) (c : Int) : madeOf c a = 0 := by
  by_cases e : madeOf c a = 0
  · exact e
  · exact absurd rfl (pairs_apart _ (madeIn_ne h) _ (madeIn_ne e)).2.2

theorem comp_pair {a b : Int} (h : madeOf a b ≠ 0) (t : List Int) : comp (a :: b :: t) = madeOf a b :: comp t := by simp [comp, h]
theorem comp_keep {a b : Int} (h : madeOf a b = 0) (t : List Int) : comp (a :: b :: t) = a :: comp (b :: t) := by simp [comp, h]
/-- Behind what makes no pair with the next. -/
theorem comp_cons {a : Int} {l : List Int} (h : ∀ x ∈ l.head?, madeOf a x = 0) : comp (a :: l) = a :: comp l := by
  cases l with
  | nil => rfl
  | cons x l => exact comp_keep (h x (by simp)) l
theorem comp_head (y : Int) (t : List Int) : (comp (y :: t)).head? = some y ∨ ∃ b, madeOf y b ≠ 0 ∧ (comp (y :: t)).head? = some (madeOf y b) := by
  cases t with
  | nil => exact .inl rfl
  | cons b t =>
    by_cases h : madeOf y b = 0
    · rw [comp_keep h]; exact .inl rfl
    · rw [comp_pair h]; exact .inr ⟨b, h, rfl⟩
theorem comp_ne (y : Int) (t : List Int) : comp (y :: t) ≠ [] := by
  rcases comp_head y t with h | ⟨b, _, h⟩ <;> intro e <;> rw [e] at h <;> cases h

theorem comp_left (b : List Int) : ∀ (n : Nat) (a : List Int), a.length ≤ n → comp (comp a ++ b) = comp (a ++ b) := by
  intro n
  induction n with
  | zero => intro a h; rw [List.eq_nil_of_length_eq_zero (l := a) (by omega)]; rfl
  | succ n ih =>
    intro a h
    match a, h with
    | [], _ => rfl
    | [x], _ => rfl
    | x :: y :: t, h =>
      simp only [List.length_cons] at h
      by_cases e : madeOf x y = 0
      · rw [comp_keep e, List.cons_append, comp_cons (a := x)]
        · rw [ih (y :: t) (by simp only [List.length_cons]; omega)]
          show _ = comp (x :: y :: (t ++ b))
          rw [comp_keep e]
          rfl
        · intro z hz
          rw [List.head?_append] at hz
          rcases comp_head y t with hh | ⟨c, hc, hh⟩
          · rw [hh] at hz
            simp at hz
            rw [← hz]; exact e
          · rw [hh] at hz
            simp at hz
            rw [← hz]; exact made_right hc x
      · rw [comp_pair e, List.cons_append, comp_cons (fun z _ => made_left e z), ih t (by omega)]
        show _ = comp (x :: y :: (t ++ b))
        rw [comp_pair e]
theorem comp_idem (a : List Int) : comp (comp a) = comp a := by
  have := comp_left [] a.length a (Nat.le_refl _)
  simpa using this
theorem comp_right (b : List Int) : ∀ (n : Nat) (a : List Int), a.length ≤ n → comp (a ++ comp b) = comp (a ++ b) := by
  intro n
  induction n with
  | zero => intro a h; rw [List.eq_nil_of_length_eq_zero (l := a) (by omega)]; exact comp_idem b
  | succ n ih =>
    intro a h
    match a, h with
    | [], _ => exact comp_idem b
    | [x], _ =>
      show comp (x :: comp b) = comp (x :: b)
      match b with
      | [] => rfl
      | [y] => rfl
      | y :: c :: t =>
        by_cases e : madeOf y c = 0
        · rw [comp_keep e]
          by_cases f : madeOf x y = 0
          · rw [comp_keep f, comp_keep f, ← comp_keep e, comp_idem]
          · rw [comp_pair f, comp_pair f, comp_idem]
        · rw [comp_pair e, comp_keep (made_right e x), comp_cons (fun z _ => made_left e z), comp_idem, comp_keep (letter_mark e x), comp_pair e]
    | x :: y :: t, h =>
      simp only [List.length_cons] at h
      show comp (x :: y :: (t ++ comp b)) = comp (x :: y :: (t ++ b))
      by_cases e : madeOf x y = 0
      · rw [comp_keep e, comp_keep e]
        have := ih (y :: t) (by simp only [List.length_cons]; omega)
        simp only [List.cons_append] at this
        rw [this]
      · rw [comp_pair e, comp_pair e, ih t (by omega)]
theorem comp_join (a b : List Int) : comp (comp a ++ comp b) = comp (a ++ b) := by
  rw [comp_left _ a.length a (Nat.le_refl _), comp_right _ a.length a (Nat.le_refl _)]

theorem mapAll_append (a b : List Int) : mapAll (a ++ b) = (mapAll a).bind fun x => (mapAll b).map (x ++ ·) := by
  induction a with
  | nil => simp [mapAll]
  | cons c a ih =>
    simp only [List.cons_append, mapAll]
    split
    · rfl
    · rw [ih]
      cases mapAll a <;> cases mapAll b <;> simp
theorem map_fix {c : Int} (h : ¬ Barred c) : ∀ x ∈ mapTo c, ¬ Barred x ∧ mapTo x = [x] := by
  have keep : ∀ x : Int, ¬ Barred x → ¬ Cap x → ¬ (1024 ≤ x ∧ x ≤ 1039) → x ≠ 7838 → ¬ (65281 ≤ x ∧ x ≤ 65374) → x ≠ 173 → x ≠ 8203 → x ≠ 8288 → x ≠ 65279 → x ≠ 12290 → x ≠ 65377 → ¬ Barred x ∧ mapTo x = [x] := by
    intro x hb h1 h2 h3 h4 h5 h6 h7 h8 h9 h10
    refine ⟨hb, ?_⟩
    unfold mapTo wide down
    rw [if_neg (by omega), if_neg (by omega), if_neg h4, if_neg h1, if_neg h2, if_neg h3]
  intro x hx
  unfold mapTo at hx
  split at hx
  · cases hx
  · rename_i h1
    split at hx
    · simp only [List.mem_singleton] at hx
      subst hx
      decide
    · rename_i h2
      have hw : ¬ Barred (wide c) ∧ ¬ (65281 ≤ wide c ∧ wide c ≤ 65374) ∧ wide c ≠ 173 ∧ wide c ≠ 8203 ∧ wide c ≠ 8288 ∧ wide c ≠ 65279 ∧ wide c ≠ 12290 ∧ wide c ≠ 65377 := by
        unfold wide
        unfold Barred at h ⊢
        split <;> omega
      generalize wide c = d at hx hw
      obtain ⟨w0, w1, w2, w3, w4, w5, w6, w7⟩ := hw
      unfold down at hx
      unfold Barred at w0
      split at hx
      · rename_i hc
        simp only [List.mem_singleton] at hx
        subst hx
        unfold Cap at hc
        apply keep
        · unfold Barred; omega
        · unfold Cap; omega
        all_goals omega
      · rename_i hc
        split at hx
        · simp only [List.mem_singleton] at hx
          subst hx
          apply keep
          · unfold Barred; omega
          · unfold Cap; omega
          all_goals omega
        · split at hx
          · simp only [List.mem_cons, List.not_mem_nil, or_false, or_self] at hx
            subst hx
            decide
          · simp only [List.mem_singleton] at hx
            subst hx
            exact keep x (by unfold Barred; exact w0) hc (by assumption) (by assumption) w1 w2 w3 w4 w5 w6 w7
/-- A list of numbers that are mapped to themselves. -/
def Fixed (l : List Int) : Prop := ∀ x ∈ l, ¬ Barred x ∧ mapTo x = [x]
theorem mapAll_fixed {l : List Int} (h : Fixed l) : mapAll l = some l := by
  induction l with
  | nil => rfl
  | cons c l ih =>
    have hc := h c (List.mem_cons_self ..)
    unfold mapAll
    rw [if_neg hc.1, ih (fun x hx => h x (List.mem_cons_of_mem _ hx)), hc.2]
    rfl
theorem fixed_mapAll {l m : List Int} (h : mapAll l = some m) : Fixed m := by
  induction l generalizing m with
  | nil => simp only [mapAll, Option.some.injEq] at h; subst h; intro x hx; cases hx
  | cons c l ih =>
    unfold mapAll at h
    split at h
    · cases h
    · rename_i hc
      obtain ⟨k, hk, rfl⟩ := Option.map_eq_some_iff.1 h
      intro x hx
      rcases List.mem_append.1 hx with hx | hx
      · exact map_fix hc x hx
      · exact ih hk x hx
theorem fixed_comp : ∀ (n : Nat) (l : List Int), l.length ≤ n → Fixed l → Fixed (comp l) := by
  intro n
  induction n with
  | zero => intro l h _; rw [List.eq_nil_of_length_eq_zero (l := l) (by omega)]; intro x hx; cases hx
  | succ n ih =>
    intro l h hf
    match l, h, hf with
    | [], _, _ => intro x hx; cases hx
    | [a], _, hf => exact hf
    | a :: b :: t, h, hf =>
      simp only [List.length_cons] at h
      by_cases e : madeOf a b = 0
      · rw [comp_keep e]
        intro x hx
        rcases List.mem_cons.1 hx with rfl | hx
        · exact hf x (List.mem_cons_self ..)
        · exact ih (b :: t) (by simp only [List.length_cons]; omega) (fun y hy => hf y (List.mem_cons_of_mem _ hy)) x hx
      · rw [comp_pair e]
        intro x hx
        rcases List.mem_cons.1 hx with rfl | hx
        · have := pairs_kept _ (madeIn_ne e)
          exact ⟨this.1, this.2.1⟩
        · exact ih t (by omega) (fun y hy => hf y (List.mem_cons_of_mem _ (List.mem_cons_of_mem _ hy))) x hx
/-- What is folded is folded to itself. -/
theorem fold_once {l a : List Int} (h : foldL l = some a) : foldL a = some a ∧ comp a = a := by
  obtain ⟨m, hm, rfl⟩ := Option.map_eq_some_iff.1 h
  have hf := fixed_comp m.length m (Nat.le_refl _) (fixed_mapAll hm)
  refine ⟨?_, comp_idem m⟩
  unfold foldL
  rw [mapAll_fixed hf, Option.map_some, comp_idem]
/-- Numbers behind others fold as each for itself, put together. -/
theorem fold_join {a b x y : List Int} (ha : foldL a = some x) (hb : foldL b = some y) : foldL (a ++ b) = some (comp (x ++ y)) := by
  obtain ⟨m, hm, rfl⟩ := Option.map_eq_some_iff.1 ha
  obtain ⟨k, hk, rfl⟩ := Option.map_eq_some_iff.1 hb
  unfold foldL
  rw [mapAll_append, hm, hk]
  simp only [Option.bind_some, Option.map_some, comp_join]
theorem fold_none {a b : List Int} (h : foldL a = none ∨ foldL b = none) : foldL (a ++ b) = none := by
  unfold foldL at *
  rw [mapAll_append]
  rcases h with h | h
  · rw [Option.map_eq_none_iff.1 h]; rfl
  · rw [Option.map_eq_none_iff.1 h]
    cases mapAll a <;> rfl
theorem comp_small : ∀ (n : Nat) (l : List Int), l.length ≤ n → (∀ x ∈ l, x < 128) → comp l = l := by
  intro n
  induction n with
  | zero => intro l h _; rw [List.eq_nil_of_length_eq_zero (l := l) (by omega)]; rfl
  | succ n ih =>
    intro l h hs
    match l, h, hs with
    | [], _, _ => rfl
    | [a], _, _ => rfl
    | a :: b :: t, h, hs =>
      simp only [List.length_cons] at h
      have e : madeOf a b = 0 := by
        by_cases e : madeOf a b = 0
        · exact e
        · have h1 := (pairs_kept _ (madeIn_ne e)).2.2.2
          have h2 := hs b (List.mem_cons_of_mem _ (List.mem_cons_self ..))
          exact absurd h1 (by show ¬ 128 ≤ b; omega)
      rw [comp_keep e, ih (b :: t) (by simp only [List.length_cons]; omega) (fun y hy => hs y (List.mem_cons_of_mem _ hy))]
/-- A number below 128 folds as its capital one. -/
def lowc (c : Int) : Int := if 65 ≤ c ∧ c ≤ 90 then c + 32 else c
def upc (c : Int) : Int := if 97 ≤ c ∧ c ≤ 122 then c - 32 else c
theorem mapTo_small {c : Int} (h0 : 0 ≤ c) (h1 : c < 128) : ¬ Barred c ∧ mapTo c = [lowc c] := by
  refine ⟨by unfold Barred; omega, ?_⟩
  have hw : wide c = c := by unfold wide; rw [if_neg (by omega)]
  unfold mapTo
  rw [if_neg (by omega), if_neg (by omega), hw]
  unfold down lowc
  by_cases h : 65 ≤ c ∧ c ≤ 90
  · rw [if_pos (by unfold Cap; omega), if_pos h]
  · rw [if_neg (by unfold Cap; omega), if_neg (by omega), if_neg (by omega), if_neg h]
theorem mapAll_small {l : List Int} (h : ∀ x ∈ l, 0 ≤ x ∧ x < 128) : mapAll l = some (l.map lowc) := by
  induction l with
  | nil => rfl
  | cons c l ih =>
    have hc := h c (List.mem_cons_self ..)
    have hm := mapTo_small hc.1 hc.2
    unfold mapAll
    rw [if_neg hm.1, ih (fun x hx => h x (List.mem_cons_of_mem _ hx)), hm.2]
    rfl
theorem lowc_small {c : Int} (h : 0 ≤ c ∧ c < 128) : 0 ≤ lowc c ∧ lowc c < 128 := by unfold lowc; split <;> omega
theorem fold_small {l : List Int} (h : ∀ x ∈ l, 0 ≤ x ∧ x < 128) : foldL l = some (l.map lowc) := by
  unfold foldL
  rw [mapAll_small h, Option.map_some, comp_small _ _ (Nat.le_refl _)]
  intro x hx
  obtain ⟨c, hc, rfl⟩ := List.mem_map.1 hx
  exact (lowc_small (h c hc)).2
theorem lowc_upc (c : Int) : lowc (upc c) = lowc c := by
  unfold upc lowc
  repeat' split
  all_goals omega
end Go.Proofs.YtfaieldafoeaiaaDoor

/-
  Plain mathematics of UTF-8: the scalar at the begin of some bytes, the scalars of bytes, the bytes of scalars; there and back.
-/
namespace Go.Proofs.YtfaieldafoeaiaaDoor

/-- How many bytes a scalar has that begins with a byte; 0: none does. -/
def lensOf (a : Int) : Nat := if a < 128 then 1 else if a < 194 then 0 else if a ≤ 223 then 2 else if a ≤ 239 then 3 else if a ≤ 244 then 4 else 0
/-- The bounds of the byte at a place behind a first one. -/
def lo (a : Int) (k : Nat) : Int := if k = 1 ∧ a = 224 then 160 else if k = 1 ∧ a = 240 then 144 else 128
def hi (a : Int) (k : Nat) : Int := if k = 1 ∧ a = 237 then 159 else if k = 1 ∧ a = 244 then 143 else 191
def fol (a c : Int) (k : Nat) : Bool := decide (lo a k ≤ c) && decide (c ≤ hi a k)
/-- How far a begin of a scalar's bytes goes on. -/
def ext (a : Int) (n k : Nat) : List UInt8 → Nat
  | [] => k
  | c :: t => if k < n ∧ fol a c.toNat k = true then ext a n (k + 1) t else k
def headBits (a : Int) (n : Nat) : Int := if n ≤ 1 then a else if n = 2 then a - 192 else if n = 3 then a - 224 else a - 240
def acc (v : Int) (t : List UInt8) : Int := t.foldl (fun v c => 64 * v + ((c.toNat : Int) - 128)) v
/-- The scalar at the begin of bytes, how many bytes it takes, whether they are a scalar's. -/
def one : List UInt8 → Int × Nat × Bool
  | [] => (65533, 1, false)
  | a :: t => if ext a.toNat (lensOf a.toNat) 1 t = lensOf a.toNat then (acc (headBits a.toNat (lensOf a.toNat)) (t.take (lensOf a.toNat - 1)), lensOf a.toNat, true) else (65533, ext a.toNat (lensOf a.toNat) 1 t, false)

theorem ext_ge (a : Int) (n : Nat) : ∀ (t : List UInt8) (k : Nat), k ≤ ext a n k t
  | [], k => Nat.le_refl _
  | c :: t, k => by
    unfold ext
    split
    · have := ext_ge a n t (k + 1); omega
    · exact Nat.le_refl _
theorem ext_le (a : Int) (n : Nat) : ∀ (t : List UInt8) (k : Nat), ext a n k t ≤ k + t.length
  | [], k => Nat.le_refl _
  | c :: t, k => by
    unfold ext
    split
    · have := ext_le a n t (k + 1); simp only [List.length_cons]; omega
    · omega
theorem ext_le_n (a : Int) (n : Nat) : ∀ (t : List UInt8) (k : Nat), ext a n k t ≤ max k n
  | [], k => by simp only [ext]; omega
  | c :: t, k => by
    unfold ext
    split
    · have := ext_le_n a n t (k + 1); omega
    · omega
theorem ext_full (a : Int) (n k : Nat) (t : List UInt8) (h : n ≤ k) : ext a n k t = k := by
  cases t with
  | nil => rfl
  | cons c t => unfold ext; rw [if_neg (by omega)]
theorem ext_nil (a : Int) (n k : Nat) : ext a n k [] = k := rfl
theorem ext_bad (a : Int) (n k : Nat) (c : UInt8) (t : List UInt8) (h : fol a c.toNat k = false) : ext a n k (c :: t) = k := by
  unfold ext; rw [if_neg (by simp [h])]
theorem ext_good (a : Int) (n k : Nat) (c : UInt8) (t : List UInt8) (hk : k < n) (h : fol a c.toNat k = true) : ext a n k (c :: t) = ext a n (k + 1) t := by
  conv => lhs; unfold ext
  rw [if_pos ⟨hk, h⟩]

theorem lensOf_le (a : Int) : lensOf a ≤ 4 := by
  unfold lensOf
  repeat' split
  all_goals omega

theorem one_size (l : List UInt8) (h : l ≠ []) : 1 ≤ (one l).2.1 ∧ (one l).2.1 ≤ l.length ∧ (one l).2.1 ≤ 4 := by
  cases l with
  | nil => exact absurd rfl h
  | cons a t =>
    have h1 := ext_ge a.toNat (lensOf a.toNat) t 1
    have h2 := ext_le a.toNat (lensOf a.toNat) t 1
    have h3 := ext_le_n a.toNat (lensOf a.toNat) t 1
    have h4 := lensOf_le a.toNat
    unfold one
    simp only [List.length_cons]
    split
    · simp only; omega
    · simp only; omega

/-- The scalars of bytes. -/
def dec (l : List UInt8) : List Int :=
  if _h : l = [] then [] else (one l).1 :: dec (l.drop (one l).2.1)
termination_by l.length
decreasing_by have := one_size l ‹_›; simp only [List.length_drop]; omega
/-- Are they some scalars' bytes? -/
def vld (l : List UInt8) : Bool :=
  if _h : l = [] then true else (one l).2.2 && vld (l.drop (one l).2.1)
termination_by l.length
decreasing_by have := one_size l ‹_›; simp only [List.length_drop]; omega

theorem dec_nil : dec [] = [] := by rw [dec]; simp
theorem vld_nil : vld [] = true := by rw [vld]; simp
theorem dec_step {l : List UInt8} (h : l ≠ []) : dec l = (one l).1 :: dec (l.drop (one l).2.1) := by
  conv => lhs; rw [dec]
  rw [dif_neg h]
theorem vld_step {l : List UInt8} (h : l ≠ []) : vld l = ((one l).2.2 && vld (l.drop (one l).2.1)) := by
  conv => lhs; rw [vld]
  rw [dif_neg h]

/-- The bytes of a number. -/
def enc1 (c : Int) : List UInt8 := (Utf8.encode c).data.toList
def enc (l : List Int) : List UInt8 := l.flatMap enc1
def scal (c : Int) : Bool := decide (0 ≤ c) && decide (c ≤ 1114111) && (decide (c < 55296) || decide (57343 < c))
def fix (c : Int) : Int := if scal c then c else 65533

theorem scal_iff (c : Int) : scal c = true ↔ 0 ≤ c ∧ c ≤ 1114111 ∧ (c < 55296 ∨ 57343 < c) := by simp [scal, and_assoc]
theorem scal_fix (c : Int) : scal (fix c) = true := by
  unfold fix
  split
  · assumption
  · rfl

theorem valid_scal (c : Int) : Utf8.valid c = scal c := by
  rw [Bool.eq_iff_iff, scal_iff]; simp [Utf8.valid]; omega
theorem enc1_fix (c : Int) : enc1 (fix c) = enc1 c := by
  unfold fix
  split
  · rfl
  · rename_i h
    have h' : Utf8.valid c = false := by rw [valid_scal]; simpa using h
    have h2 : Utf8.valid 65533 = true := rfl
    unfold enc1 Utf8.encode
    simp only [h', h2, Utf8.runeError]
    rfl
theorem enc1_bad (c : Int) (h : scal c = false) : enc1 c = [239, 191, 189] := by
  rw [← enc1_fix, fix, if_neg (by simp [h])]
  rfl
theorem enc1_one (c : Int) (h0 : 0 ≤ c) (h1 : c < 128) : enc1 c = [UInt8.ofNat c.toNat] := by
  have h' : Utf8.valid c = true := by rw [valid_scal, scal_iff]; omega
  unfold enc1 Utf8.encode
  simp only [h', if_true]
  rw [if_pos (by omega)]
theorem enc1_two (c : Int) (h0 : 128 ≤ c) (h1 : c < 2048) : enc1 c = [UInt8.ofNat (192 + c.toNat / 64), UInt8.ofNat (128 + c.toNat % 64)] := by
  have h' : Utf8.valid c = true := by rw [valid_scal, scal_iff]; omega
  unfold enc1 Utf8.encode
  simp only [h', if_true]
  rw [if_neg (by omega), if_pos (by omega)]
theorem enc1_three (c : Int) (h0 : 2048 ≤ c) (h1 : c < 65536) (h2 : c < 55296 ∨ 57343 < c) : enc1 c = [UInt8.ofNat (224 + c.toNat / 4096), UInt8.ofNat (128 + c.toNat / 64 % 64), UInt8.ofNat (128 + c.toNat % 64)] := by
  have h' : Utf8.valid c = true := by rw [valid_scal, scal_iff]; omega
  unfold enc1 Utf8.encode
  simp only [h', if_true]
  rw [if_neg (by omega), if_neg (by omega), if_pos (by omega)]
theorem enc1_four (c : Int) (h0 : 65536 ≤ c) (h1 : c ≤ 1114111) : enc1 c = [UInt8.ofNat (240 + c.toNat / 262144), UInt8.ofNat (128 + c.toNat / 4096 % 64), UInt8.ofNat (128 + c.toNat / 64 % 64), UInt8.ofNat (128 + c.toNat % 64)] := by
  have h' : Utf8.valid c = true := by rw [valid_scal, scal_iff]; omega
  unfold enc1 Utf8.encode
  simp only [h', if_true]
  rw [if_neg (by omega), if_neg (by omega), if_neg (by omega)]

theorem ofNat_toNat (n : Nat) (h : n < 256) : ((UInt8.ofNat n).toNat : Int) = n := by
  simp only [UInt8.toNat_ofNat']
  omega

theorem fol_true {a c : Int} {k : Nat} (h1 : lo a k ≤ c) (h2 : c ≤ hi a k) : fol a c k = true := by simp [fol, h1, h2]
theorem fol_iff {a c : Int} {k : Nat} : fol a c k = true ↔ lo a k ≤ c ∧ c ≤ hi a k := by simp [fol]
theorem lo_ge (a : Int) (k : Nat) : 128 ≤ lo a k := by
  unfold lo
  repeat' split
  all_goals omega
theorem hi_le (a : Int) (k : Nat) : hi a k ≤ 191 := by
  unfold hi
  repeat' split
  all_goals omega
theorem lo_two (a : Int) (k : Nat) (h : 2 ≤ k) : lo a k = 128 := by unfold lo; rw [if_neg (by omega), if_neg (by omega)]
theorem hi_two (a : Int) (k : Nat) (h : 2 ≤ k) : hi a k = 191 := by unfold hi; rw [if_neg (by omega), if_neg (by omega)]

theorem lens_1 {a : Int} (h : a < 128) : lensOf a = 1 := by unfold lensOf; rw [if_pos h]
theorem lens_2 {a : Int} (h0 : 194 ≤ a) (h : a ≤ 223) : lensOf a = 2 := by unfold lensOf; rw [if_neg (by omega), if_neg (by omega), if_pos h]
theorem lens_3 {a : Int} (h0 : 224 ≤ a) (h : a ≤ 239) : lensOf a = 3 := by unfold lensOf; rw [if_neg (by omega), if_neg (by omega), if_neg (by omega), if_pos h]
theorem lens_4 {a : Int} (h0 : 240 ≤ a) (h : a ≤ 244) : lensOf a = 4 := by unfold lensOf; rw [if_neg (by omega), if_neg (by omega), if_neg (by omega), if_neg (by omega), if_pos h]
theorem lens_0 {a : Int} (h0 : 128 ≤ a) (h : a < 194 ∨ 244 < a) : lensOf a = 0 := by
  unfold lensOf
  rw [if_neg (by omega)]
  rcases h with h | h
  · rw [if_pos h]
  · rw [if_neg (by omega), if_neg (by omega), if_neg (by omega), if_neg (by omega)]

/-- A scalar's bytes, whatever follows, are that scalar. -/
theorem one_enc_scal (c : Int) (hc : scal c = true) (t : List UInt8) : one (enc1 c ++ t) = (c, (enc1 c).length, true) := by
  rw [scal_iff] at hc
  obtain ⟨h0, h1, h2⟩ := hc
  by_cases e1 : c < 128
  · rw [enc1_one c h0 e1]
    have ha := ofNat_toNat c.toNat (by omega)
    have hl : lensOf ((UInt8.ofNat c.toNat).toNat) = 1 := by rw [ha]; exact lens_1 (by omega)
    simp only [List.cons_append, List.nil_append, one, hl]
    rw [if_pos (ext_full _ _ _ _ (by omega))]
    simp [acc, headBits]; omega
  by_cases e2 : c < 2048
  · rw [enc1_two c (by omega) e2]
    have ha := ofNat_toNat (192 + c.toNat / 64) (by omega)
    have hb := ofNat_toNat (128 + c.toNat % 64) (by omega)
    have hl : lensOf ((UInt8.ofNat (192 + c.toNat / 64)).toNat) = 2 := by rw [ha]; exact lens_2 (by omega) (by omega)
    have hf : fol ((UInt8.ofNat (192 + c.toNat / 64)).toNat) ((UInt8.ofNat (128 + c.toNat % 64)).toNat) 1 = true := by
      rw [ha, hb, fol_iff]; unfold lo hi
      rw [if_neg (by omega), if_neg (by omega), if_neg (by omega), if_neg (by omega)]; omega
    simp only [List.cons_append, List.nil_append, one, hl]
    rw [ext_good _ _ _ _ _ (by omega) hf, if_pos (ext_full _ _ _ _ (by omega))]
    simp only [headBits, acc, List.take, List.foldl, ha, hb, List.length_cons, List.length_nil]
    refine Prod.ext ?_ rfl
    simp only [Nat.reduceLeDiff, if_false, if_true]
    omega
  by_cases e3 : c < 65536
  · rw [enc1_three c (by omega) e3 h2]
    have ha := ofNat_toNat (224 + c.toNat / 4096) (by omega)
    have hb := ofNat_toNat (128 + c.toNat / 64 % 64) (by omega)
    have hd := ofNat_toNat (128 + c.toNat % 64) (by omega)
    have hl : lensOf ((UInt8.ofNat (224 + c.toNat / 4096)).toNat) = 3 := by rw [ha]; exact lens_3 (by omega) (by omega)
    have hf : fol ((UInt8.ofNat (224 + c.toNat / 4096)).toNat) ((UInt8.ofNat (128 + c.toNat / 64 % 64)).toNat) 1 = true := by
      rw [ha, hb, fol_iff]; unfold lo hi
      repeat' split
      all_goals omega
    have hg : fol ((UInt8.ofNat (224 + c.toNat / 4096)).toNat) ((UInt8.ofNat (128 + c.toNat % 64)).toNat) 2 = true := by
      rw [ha, hd, fol_iff, lo_two _ _ (by omega), hi_two _ _ (by omega)]; omega
    simp only [List.cons_append, List.nil_append, one, hl]
    rw [ext_good _ _ _ _ _ (by omega) hf, ext_good _ _ _ _ _ (by omega) hg, if_pos (ext_full _ _ _ _ (by omega))]
    simp only [headBits, acc, List.take, List.foldl, ha, hb, hd, List.length_cons, List.length_nil]
    refine Prod.ext ?_ rfl
    simp only [Nat.reduceLeDiff, Nat.reduceEqDiff, if_false, if_true]
    omega
  · rw [enc1_four c (by omega) h1]
    have ha := ofNat_toNat (240 + c.toNat / 262144) (by omega)
    have hb := ofNat_toNat (128 + c.toNat / 4096 % 64) (by omega)
    have hd := ofNat_toNat (128 + c.toNat / 64 % 64) (by omega)
    have he := ofNat_toNat (128 + c.toNat % 64) (by omega)
    have hl : lensOf ((UInt8.ofNat (240 + c.toNat / 262144)).toNat) = 4 := by rw [ha]; exact lens_4 (by omega) (by omega)
    have hf : fol ((UInt8.ofNat (240 + c.toNat / 262144)).toNat) ((UInt8.ofNat (128 + c.toNat / 4096 % 64)).toNat) 1 = true := by
      rw [ha, hb, fol_iff]; unfold lo hi
      repeat' split
      all_goals omega
    have hg : fol ((UInt8.ofNat (240 + c.toNat / 262144)).toNat) ((UInt8.ofNat (128 + c.toNat / 64 % 64)).toNat) 2 = true := by
      rw [ha, hd, fol_iff, lo_two _ _ (by omega), hi_two _ _ (by omega)]; omega
    have hh : fol ((UInt8.ofNat (240 + c.toNat / 262144)).toNat) ((UInt8.ofNat (128 + c.toNat % 64)).toNat) 3 = true := by
      rw [ha, he, fol_iff, lo_two _ _ (by omega), hi_two _ _ (by omega)]; omega
    simp only [List.cons_append, List.nil_append, one, hl]
    rw [ext_good _ _ _ _ _ (by omega) hf, ext_good _ _ _ _ _ (by omega) hg, ext_good _ _ _ _ _ (by omega) hh, if_pos (ext_full _ _ _ _ (by omega))]
    simp only [headBits, acc, List.take, List.foldl, ha, hb, hd, he, List.length_cons, List.length_nil]
    refine Prod.ext ?_ rfl
    simp only [Nat.reduceLeDiff, Nat.reduceEqDiff, if_false]
    omega
theorem one_enc (c : Int) (t : List UInt8) : one (enc1 c ++ t) = (fix c, (enc1 c).length, true) := by
  have h := one_enc_scal (fix c) (scal_fix c) t
  rwa [enc1_fix] at h
theorem enc1_pos (c : Int) : 1 ≤ (enc1 c).length ∧ (enc1 c).length ≤ 4 := by
  have h := one_size (enc1 c ++ [0]) (by simp)
  rw [one_enc] at h
  exact ⟨h.1, h.2.2⟩
theorem enc1_ne (c : Int) (t : List UInt8) : enc1 c ++ t ≠ [] := by
  have h := (enc1_pos c).1
  intro e
  have : (enc1 c ++ t).length = 0 := by rw [e]; rfl
  rw [List.length_append] at this
  omega

/-- Bytes that are a scalar's are that scalar's bytes. -/
theorem u8_ext {a : UInt8} {n : Nat} (h : (a.toNat : Int) = n) (hn : n < 256) : a = UInt8.ofNat n := by
  apply UInt8.toNat_inj.1
  simp only [UInt8.toNat_ofNat']
  omega
theorem ext_cons {a : Int} {n k : Nat} {t : List UInt8} (hk : k < n) (h : ext a n k t = n) : ∃ c t', t = c :: t' ∧ fol a c.toNat k = true ∧ ext a n (k + 1) t' = n := by
  cases t with
  | nil => simp only [ext] at h; omega
  | cons c t' =>
    by_cases hf : fol a c.toNat k = true
    · exact ⟨c, t', rfl, hf, by rwa [ext_good _ _ _ _ _ hk hf] at h⟩
    · rw [ext_bad _ _ _ _ _ (by simpa using hf)] at h; omega

theorem one_back {l : List UInt8} (h : (one l).2.2 = true) : scal (one l).1 = true ∧ l = enc1 (one l).1 ++ l.drop (one l).2.1 := by
  cases l with
  | nil => simp [one] at h
  | cons a t =>
    have hlt : a.toNat < 256 := a.toNat_lt
    by_cases hw : ext a.toNat (lensOf a.toNat) 1 t = lensOf a.toNat
    · have e : one (a :: t) = (acc (headBits a.toNat (lensOf a.toNat)) (t.take (lensOf a.toNat - 1)), lensOf a.toNat, true) := by simp only [one]; rw [if_pos hw]
      rw [e]
      clear e h
      by_cases c1 : (a.toNat : Int) < 128
      · rw [lens_1 c1]
        simp only [headBits, acc, Nat.sub_self, List.take_zero, List.foldl_nil, Nat.le_refl, if_true]
        refine ⟨by rw [scal_iff]; omega, ?_⟩
        rw [enc1_one _ (by omega) c1]
        simp
      by_cases c0 : (a.toNat : Int) < 194 ∨ 244 < (a.toNat : Int)
      · have hl := lens_0 (by omega) c0
        rw [hl] at hw
        have := ext_ge a.toNat 0 t 1
        omega
      by_cases c2 : (a.toNat : Int) ≤ 223
      · have hl := lens_2 (by omega) c2
        rw [hl] at hw ⊢
        obtain ⟨b, t', rfl, hf, -⟩ := ext_cons (by omega) hw
        rw [fol_iff] at hf
        have h1 := lo_ge a.toNat 1
        have h2 := hi_le a.toNat 1
        simp only [headBits, acc, List.take, List.foldl, Nat.reduceLeDiff, if_false, if_true, List.drop]
        refine ⟨by rw [scal_iff]; omega, ?_⟩
        rw [enc1_two _ (by omega) (by omega)]
        simp only [List.cons_append, List.nil_append, List.cons.injEq, and_true]
        exact ⟨u8_ext (by omega) (by omega), u8_ext (by omega) (by omega)⟩
      by_cases c3 : (a.toNat : Int) ≤ 239
      · have hl := lens_3 (by omega) c3
        rw [hl] at hw ⊢
        obtain ⟨b, t', rfl, hf, hw⟩ := ext_cons (by omega) hw
        obtain ⟨d, t', rfl, hg, -⟩ := ext_cons (by omega) hw
        rw [fol_iff] at hf hg
        rw [lo_two _ _ (by omega), hi_two _ _ (by omega)] at hg
        have h1 := lo_ge a.toNat 1
        have h2 := hi_le a.toNat 1
        have h3 : (a.toNat : Int) = 224 → lo a.toNat 1 = 160 := fun e => by unfold lo; rw [if_pos ⟨rfl, e⟩]
        have h4 : (a.toNat : Int) = 237 → hi a.toNat 1 = 159 := fun e => by unfold hi; rw [if_pos ⟨rfl, e⟩]
        simp only [headBits, acc, List.take, List.foldl, Nat.reduceLeDiff, Nat.reduceEqDiff, if_false, if_true, List.drop]
        refine ⟨by rw [scal_iff]; omega, ?_⟩
        rw [enc1_three _ (by omega) (by omega) (by omega)]
        simp only [List.cons_append, List.nil_append, List.cons.injEq, and_true]
        exact ⟨u8_ext (by omega) (by omega), u8_ext (by omega) (by omega), u8_ext (by omega) (by omega)⟩
      · have hl := lens_4 (a := a.toNat) (by omega) (by omega)
        rw [hl] at hw ⊢
        obtain ⟨b, t', rfl, hf, hw⟩ := ext_cons (by omega) hw
        obtain ⟨d, t', rfl, hg, hw⟩ := ext_cons (by omega) hw
        obtain ⟨e, t', rfl, hh, -⟩ := ext_cons (by omega) hw
        rw [fol_iff] at hf hg hh
        rw [lo_two _ _ (by omega), hi_two _ _ (by omega)] at hg hh
        have h1 := lo_ge a.toNat 1
        have h2 := hi_le a.toNat 1
        have h3 : (a.toNat : Int) = 240 → lo a.toNat 1 = 144 := fun e => by unfold lo; rw [if_neg (by omega), if_pos ⟨rfl, e⟩]
        have h4 : (a.toNat : Int) = 244 → hi a.toNat 1 = 143 := fun e => by unfold hi; rw [if_neg (by omega), if_pos ⟨rfl, e⟩]
        simp only [headBits, acc, List.take, List.foldl, Nat.reduceLeDiff, Nat.reduceEqDiff, if_false, List.drop]
        refine ⟨by rw [scal_iff]; omega, ?_⟩
        rw [enc1_four _ (by omega) (by omega)]
        simp only [List.cons_append, List.nil_append, List.cons.injEq, and_true]
        exact ⟨u8_ext (by omega) (by omega), u8_ext (by omega) (by omega), u8_ext (by omega) (by omega), u8_ext (by omega) (by omega)⟩
    · simp only [one] at h
      rw [if_neg hw] at h
      cases h
theorem one_bad {l : List UInt8} (h : (one l).2.2 = false) : (one l).1 = 65533 := by
  cases l with
  | nil => rfl
  | cons a t =>
    simp only [one] at h ⊢
    split at h
    · cases h
    · rename_i hw; rw [if_neg hw]
theorem one_scal (l : List UInt8) : scal (one l).1 = true := by
  cases h : (one l).2.2 with
  | true => exact (one_back h).1
  | false => rw [one_bad h]; rfl

theorem fix_scal {c : Int} (h : scal c = true) : fix c = c := by unfold fix; rw [if_pos h]

/-- Numbers, told by their bytes, ahead of any bytes. -/
theorem dec_enc (l : List Int) (t : List UInt8) : dec (enc l ++ t) = l.map fix ++ dec t := by
  induction l with
  | nil => rfl
  | cons c l ih =>
    have e : enc (c :: l) ++ t = enc1 c ++ (enc l ++ t) := by simp [enc]
    rw [e, dec_step (enc1_ne _ _), one_enc]
    simp only [List.drop_left, ih, List.map_cons, List.cons_append]
theorem vld_enc (l : List Int) (t : List UInt8) : vld (enc l ++ t) = vld t := by
  induction l with
  | nil => rfl
  | cons c l ih =>
    have e : enc (c :: l) ++ t = enc1 c ++ (enc l ++ t) := by simp [enc]
    rw [e, vld_step (enc1_ne _ _), one_enc]
    simp only [List.drop_left, ih, Bool.true_and]
theorem dec_enc0 (l : List Int) : dec (enc l) = l.map fix := by
  have h := dec_enc l []
  simpa [dec_nil] using h
theorem vld_enc0 (l : List Int) : vld (enc l) = true := by
  have h := vld_enc l []
  simpa [vld_nil] using h

theorem dec_scal (l : List UInt8) : ∀ c ∈ dec l, scal c = true := by
  by_cases h : l = []
  · subst h; rw [dec_nil]; intro c hc; simp at hc
  · have hs := one_size l h
    rw [dec_step h]
    intro c hc
    rcases List.mem_cons.1 hc with rfl | hc
    · exact one_scal l
    · exact dec_scal _ c hc
termination_by l.length
decreasing_by simp only [List.length_drop]; omega
theorem dec_fix (l : List UInt8) : (dec l).map fix = dec l := by
  conv => rhs; rw [← List.map_id (dec l)]
  exact List.map_congr_left fun c hc => fix_scal (dec_scal l c hc)
theorem dec_length (l : List UInt8) : (dec l).length ≤ l.length := by
  by_cases h : l = []
  · subst h; rw [dec_nil]; exact Nat.le_refl _
  · have hs := one_size l h
    rw [dec_step h]
    have := dec_length (l.drop (one l).2.1)
    simp only [List.length_cons, List.length_drop] at this ⊢
    omega
termination_by l.length
decreasing_by simp only [List.length_drop]; omega
theorem enc_dec {l : List UInt8} (hv : vld l = true) : enc (dec l) = l := by
  by_cases h : l = []
  · subst h; rw [dec_nil]; rfl
  · have hs := one_size l h
    rw [vld_step h, Bool.and_eq_true] at hv
    have hb := (one_back hv.1).2
    rw [dec_step h]
    have := enc_dec hv.2
    simp only [enc, List.flatMap_cons] at this ⊢
    rw [this]
    exact hb.symm
termination_by l.length
decreasing_by simp only [List.length_drop]; omega

/-- Bytes are valid just if they are what they are told as. -/
theorem vld_eq (l : List UInt8) : vld l = decide (enc (dec l) = l) := by
  cases h : vld l with
  | true => simp [enc_dec h]
  | false =>
    have : ¬ enc (dec l) = l := fun e => by rw [← e, vld_enc0] at h; cases h
    simp [this]
theorem dec_append {a : List UInt8} (h : vld a = true) (b : List UInt8) : dec (a ++ b) = dec a ++ dec b := by
  have e := enc_dec h
  conv => lhs; rw [← e]
  rw [dec_enc, dec_fix]
theorem vld_append {a : List UInt8} (h : vld a = true) (b : List UInt8) : vld (a ++ b) = vld b := by
  have e := enc_dec h
  conv => lhs; rw [← e]
  rw [vld_enc]
theorem enc_length (l : List Int) : (enc l).length ≤ 4 * l.length := by
  induction l with
  | nil => exact Nat.le_refl _
  | cons c l ih =>
    have := enc1_pos c
    simp only [enc, List.flatMap_cons, List.length_append, List.length_cons] at ih ⊢
    omega
end Go.Proofs.YtfaieldafoeaiaaDoor

/-
  The small functions of package utf and of the document's answers of layer 2, by their contracts.
-/
namespace Go.Proofs.YtfaieldafoeaiaaDoor
open Go.RowKit

theorem ret_bool {a b : Bool} (h : a = b) : Ending.returned (.bool a) = .returned (.bool b) := by rw [h]
theorem ret_int {k : IntKind} {a b : Int} (h : a = b) : Ending.returned (.int k a) = .returned (.int k b) := by rw [h]

set_option maxHeartbeats 400000 in
theorem many_any (c : Int) (w : World) :
    Calls Tryd.prog 19 #[.int .u8 c] w fun e w' => e = .returned (.int .i64 (lensOf c)) ∧ w = w' := by
  go_enter Tryd.func19, Tryd.ntmps19
  go_wp2
  all_goals
    go_ret
    refine ⟨ret_int ?_, rfl⟩
    first
    | (rw [lens_1 (by omega)]; rfl)
    | (rw [lens_2 (by omega) (by omega)]; rfl)
    | (rw [lens_3 (by omega) (by omega)]; rfl)
    | (rw [lens_4 (by omega) (by omega)]; rfl)
    | (rw [lens_0 (by omega) (by omega)]; rfl)

set_option maxHeartbeats 400000 in
theorem follows_any (a c : Int) (k : Nat) (w : World) (hk : 1 ≤ k) :
    Calls Tryd.prog 38 #[.int .u8 a, .int .u8 c, .int .i64 k] w fun e w' => e = .returned (.bool (fol a c k)) ∧ w = w' := by
  go_enter Tryd.func38, Tryd.ntmps38
  go_wp2
  all_goals
    go_ret
    refine ⟨ret_bool ?_, rfl⟩
    rw [Bool.eq_iff_iff, fol_iff]
    go_light
    unfold lo hi
    repeat' split
    all_goals (first | (simp; done) | (simp; omega))


theorem bcell {W w1 : World} (hb : Below W.heap.size W w1) : (∀ b o, b < W.heap.size → w1.cell? ⟨b, o, none⟩ = W.cell? ⟨b, o, none⟩) ∧ (∀ b o, b < W.heap.size → w1.frozen? ⟨b, o, none⟩ = W.frozen? ⟨b, o, none⟩) :=
  ⟨fun b o h => hb.cell (p := ⟨b, o, none⟩) h, fun b o h => hb.frozen (p := ⟨b, o, none⟩) h⟩

theorem lo1 {a : Int} (h : ¬ a = 224) (h2 : ¬ a = 240) : lo a 1 = 128 := by unfold lo; rw [if_neg (by omega), if_neg (by omega)]
theorem hi1 {a : Int} (h : ¬ a = 237) (h2 : ¬ a = 244) : hi a 1 = 191 := by unfold hi; rw [if_neg (by omega), if_neg (by omega)]

/-- What the first byte says of the scalar. -/
def leadBits (a : Int) : Int := if lensOf a = 0 then 65533 else headBits a (lensOf a)

end Go.Proofs.YtfaieldafoeaiaaDoor

/-
  utf.first: the scalar at the begin of a text, by its contract.
-/
namespace Go.Proofs.YtfaieldafoeaiaaDoor
open Go.RowKit

theorem drop_byte (s : ByteArray) (k : Nat) (h : k < s.size) : s.data.toList.drop k = s[k] :: s.data.toList.drop (k + 1) := by
  rw [List.drop_eq_getElem_cons (by simpa using h)]; rfl
theorem drop_end (s : ByteArray) (k : Nat) (h : s.size ≤ k) : s.data.toList.drop k = [] := by
  apply List.drop_eq_nil_of_le; simpa using h
theorem take_byte (s : ByteArray) (k : Nat) (h : k < s.size) (h1 : 1 ≤ k) : (s.data.toList.drop 1).take k = (s.data.toList.drop 1).take (k - 1) ++ [s[k]] := by
  obtain ⟨j, rfl⟩ : ∃ j, k = j + 1 := ⟨k - 1, by omega⟩
  rw [List.take_succ_eq_append_getElem (by simp; omega)]
  simp only [Nat.add_sub_cancel, List.getElem_drop, Nat.add_comm 1 j]
  rfl
theorem one_whole (s : ByteArray) (h0 : 0 < s.size) (n : Nat) (hn : lensOf s[0].toNat = n) (h : ext s[0].toNat n 1 (s.data.toList.drop 1) = n) :
    one s.data.toList = (acc (headBits s[0].toNat n) ((s.data.toList.drop 1).take (n - 1)), n, true) := by
  have e := drop_byte s 0 h0
  rw [List.drop_zero] at e
  rw [e]
  subst hn
  simp only [one, List.drop_succ_cons, List.drop_zero]
  simp only [Nat.zero_add] at h ⊢
  rw [if_pos h]
theorem one_part (s : ByteArray) (h0 : 0 < s.size) (n k : Nat) (hn : lensOf s[0].toNat = n) (h : ext s[0].toNat n 1 (s.data.toList.drop 1) = k) (hk : k ≠ n) :
    one s.data.toList = (65533, k, false) := by
  have e := drop_byte s 0 h0
  rw [List.drop_zero] at e
  rw [e]
  subst hn
  simp only [one]
  simp only [Nat.zero_add] at h ⊢
  rw [if_neg (by omega), h]

/-- The world in the loop of first: the cells of size, of more and of the bounds. -/
structure FirstAt (w : World) (B : Nat) (a : Int) (n k : Nat) (wr : World) : Prop where
  below : Below w.heap.size w wr
  b0 : w.heap.size < B
  b1 : B + 1 < wr.heap.size
  size : wr.cell? ⟨w.heap.size, 0, none⟩ = some (.int .i64 k)
  more : wr.cell? ⟨B, 0, none⟩ = some (.int .i64 ((n : Int) - 1))
  lo0 : wr.cell? ⟨B + 1, 0, none⟩ = some (.int .u8 (lo a k))
  hi0 : wr.cell? ⟨B + 1, 1, none⟩ = some (.int .u8 (hi a k))
  f0 : wr.frozen? ⟨w.heap.size, 0, none⟩ = false
  f1 : wr.frozen? ⟨B + 1, 0, none⟩ = false
  f2 : wr.frozen? ⟨B + 1, 1, none⟩ = false

def FirstRel (s : ByteArray) (h0 : 0 < s.size) (n : Nat) (k : Nat) (v : Int) : Prop :=
  1 ≤ k ∧ k ≤ max n 1 ∧ k ≤ s.size ∧ ext s[0].toNat n 1 (s.data.toList.drop 1) = ext s[0].toNat n k (s.data.toList.drop k) ∧
  (n = 0 → v = 65533) ∧ (1 ≤ n → v = acc (headBits s[0].toNat n) ((s.data.toList.drop 1).take (k - 1))) ∧ 0 ≤ v ∧ v ≤ 17000000 ∧ (2 ≤ n → (k = 1 → v < 64) ∧ (k = 2 → v < 4096) ∧ (k = 3 → v < 262144))

def FirstPost (s : ByteArray) (w : World) (e : Ending) (w' : World) : Prop :=
  e = .returned (.tuple #[.int .i32 (one s.data.toList).1, .int .i64 ((one s.data.toList).2.1 : Nat), .bool (one s.data.toList).2.2]) ∧ Below w.heap.size w w'

theorem FirstAt.next {w wr w2 : World} {B : Nat} {a : Int} {n k : Nat} (h : FirstAt w B a n k wr) (hb : Below wr.heap.size wr w2) (h1 : 1 ≤ k) :
    FirstAt w B a n (k + 1) (((w2.setCell ⟨B + 1, 0, none⟩ (.int .u8 128)).setCell ⟨B + 1, 1, none⟩ (.int .u8 191)).setCell ⟨w.heap.size, 0, none⟩ (.int .i64 ((k : Int) + 1))) := by
  obtain ⟨ha, b0, b1, c0, c1, c2, c3, f0, f1, f2⟩ := h
  have hs := hb.size
  have n1 : (⟨B + 1, 0, none⟩ : Addr) ≠ ⟨w.heap.size, 0, none⟩ := fun e => by simp only [Addr.mk.injEq] at e; omega
  have n2 : (⟨B + 1, 1, none⟩ : Addr) ≠ ⟨w.heap.size, 0, none⟩ := fun e => by simp only [Addr.mk.injEq] at e; omega
  have n3 : (⟨w.heap.size, 0, none⟩ : Addr) ≠ ⟨B, 0, none⟩ := fun e => by simp only [Addr.mk.injEq] at e; omega
  have n4 : (⟨B + 1, 0, none⟩ : Addr) ≠ ⟨B, 0, none⟩ := fun e => by simp only [Addr.mk.injEq] at e; omega
  have n5 : (⟨B + 1, 1, none⟩ : Addr) ≠ ⟨B, 0, none⟩ := fun e => by simp only [Addr.mk.injEq] at e; omega
  have n6 : (⟨B + 1, 1, none⟩ : Addr) ≠ ⟨B + 1, 0, none⟩ := fun e => by simp only [Addr.mk.injEq] at e; omega
  have d0 := (hb.cell (p := ⟨w.heap.size, 0, none⟩) (by show w.heap.size < _; omega)).trans c0
  have d1 := (hb.cell (p := ⟨B, 0, none⟩) (by show B < _; omega)).trans c1
  have d2 := (hb.cell (p := ⟨B + 1, 0, none⟩) b1).trans c2
  have d3 := (hb.cell (p := ⟨B + 1, 1, none⟩) b1).trans c3
  constructor
  · exact (((ha.trans (hb.mono ha.size)).setCell (by show _ ≤ B + 1; omega) _).setCell (by show _ ≤ B + 1; omega) _).setCell (Nat.le_refl _) _
  · exact b0
  · simp; omega
  · rw [World.cell?_setCell_same' _ _ _ (by rw [World.cell?_setCell_other _ _ _ _ n2, World.cell?_setCell_other _ _ _ _ n1, d0]; rfl)]; rfl
  · rw [World.cell?_setCell_other _ _ _ _ n3, World.cell?_setCell_other _ _ _ _ n5, World.cell?_setCell_other _ _ _ _ n4, d1]
  · rw [World.cell?_setCell_other _ _ _ _ n1.symm, World.cell?_setCell_other _ _ _ _ n6, World.cell?_setCell_same' _ _ _ (by rw [d2]; rfl), lo_two _ _ (by omega)]
  · rw [World.cell?_setCell_other _ _ _ _ n2.symm, World.cell?_setCell_same' _ _ _ (by rw [World.cell?_setCell_other _ _ _ _ n6.symm, d3]; rfl), hi_two _ _ (by omega)]
  · simp only [World.frozen?_setCell]; exact (hb.frozen (p := ⟨w.heap.size, 0, none⟩) (by show w.heap.size < _; omega)).trans f0
  · simp only [World.frozen?_setCell]; exact (hb.frozen (p := ⟨B + 1, 0, none⟩) b1).trans f1
  · simp only [World.frozen?_setCell]; exact (hb.frozen (p := ⟨B + 1, 1, none⟩) b1).trans f2

theorem head_bound (a : Int) (n : Nat) (hn : lensOf a = n) (h0 : 0 ≤ a) : 0 ≤ leadBits a ∧ leadBits a ≤ 65533 ∧ (2 ≤ n → leadBits a < 64) := by
  unfold leadBits headBits
  unfold lensOf at *
  repeat' split at hn
  all_goals (subst hn; simp only [*, if_true, if_false]; first | (simp; done) | (simp; omega) | omega)

theorem FirstRel.start (s : ByteArray) (h0 : 0 < s.size) (n : Nat) (hn : lensOf s[0].toNat = n) : FirstRel s h0 n 1 (leadBits s[0].toNat) := by
  obtain ⟨b0, b1, b2⟩ := head_bound s[0].toNat n hn (by omega)
  refine ⟨Nat.le_refl _, by omega, by omega, rfl, fun e => ?_, fun e => ?_, b0, by omega, fun e => ⟨fun _ => b2 e, fun h => by omega, fun h => by omega⟩⟩
  · unfold leadBits; rw [if_pos (by omega)]
  · unfold leadBits; rw [if_neg (by omega), hn]; simp [acc]

theorem FirstRel.next {s : ByteArray} {h0 : 0 < s.size} {n k : Nat} {v : Int} (h : FirstRel s h0 n k v) (hk : k < n) (hn : n ≤ 4) (hs : k < s.size) (hf : fol s[0].toNat s[k].toNat k = true) :
    FirstRel s h0 n (k + 1) (64 * v + ((s[k].toNat : Int) - 128)) := by
  obtain ⟨h1, h2, h3, h4, h5, h6, h7, h8, h9⟩ := h
  have hb := fol_iff.1 hf
  have l1 := lo_ge s[0].toNat k
  have l2 := hi_le s[0].toNat k
  have h9' := h9 (by omega)
  refine ⟨by omega, by omega, by omega, ?_, fun e => by omega, fun e => ?_, by omega, by omega, fun e => ⟨fun _ => by omega, fun _ => by omega, fun _ => by omega⟩⟩
  · rw [h4, drop_byte s k hs, ext_good _ _ _ _ _ hk hf]
  · rw [Nat.add_sub_cancel, take_byte s k hs h1]
    unfold acc at h6 ⊢
    rw [List.foldl_append, ← h6 e]
    rfl

theorem FirstRel.stop {s : ByteArray} {h0 : 0 < s.size} {n k : Nat} {v : Int} (h : FirstRel s h0 n k v) (hn : lensOf s[0].toNat = n) (hk : k < n) (hs : s.size ≤ k ∨ ∃ hs : k < s.size, fol s[0].toNat s[k].toNat k = false) :
    one s.data.toList = (65533, k, false) := by
  obtain ⟨h1, h2, h3, h4, h5, h6, h7, h8, h9⟩ := h
  refine one_part s h0 n k hn ?_ (by omega)
  rw [h4]
  rcases hs with hs | ⟨hs, hf⟩
  · rw [drop_end s k hs, ext_nil]
  · rw [drop_byte s k hs, ext_bad _ _ _ _ _ hf]

theorem FirstRel.full {s : ByteArray} {h0 : 0 < s.size} {n k : Nat} {v : Int} (h : FirstRel s h0 n k v) (hn : lensOf s[0].toNat = n) (hk : ¬ k < n) :
    one s.data.toList = (v, k, decide (1 ≤ (n : Int))) := by
  obtain ⟨h1, h2, h3, h4, h5, h6, h7, h8, h9⟩ := h
  by_cases e : n = 0
  · subst e
    obtain rfl : k = 1 := by omega
    rw [one_part s h0 0 1 hn (by rw [h4, ext_full _ _ _ _ (by omega)]) (by omega), h5 rfl]
    rfl
  · obtain rfl : k = n := by omega
    rw [one_whole s h0 k hn (by rw [h4, ext_full _ _ _ _ (by omega)]), h6 h1]
    simp; omega

end Go.Proofs.YtfaieldafoeaiaaDoor

/-
  Slices of runes that read as lists; utf.Decode, utf.Valid, utf.Encode and the document's Same, by their contracts.
-/
namespace Go.Proofs.YtfaieldafoeaiaaDoor
open Go.RowKit

/-- A slice of runes that reads as a list; nil let in. -/
def Runes (w : World) (A : Option Addr) (l : List Int) : Prop :=
  ∀ i c, l[i]? = some c → ∃ b off, A = some ⟨b, off, none⟩ ∧ b < w.heap.size ∧ w.cell? ⟨b, off + i, none⟩ = some (.int .i32 c)

theorem Runes.below {w w' : World} {A : Option Addr} {l : List Int} (h : Runes w A l) (hb : Below w.heap.size w w') : Runes w' A l := by
  intro i c hc
  obtain ⟨b, off, e, hl, hc⟩ := h i c hc
  exact ⟨b, off, e, Nat.lt_of_lt_of_le hl hb.size, (hb.cell (p := ⟨b, off + i, none⟩) hl).trans hc⟩

theorem Runes.drewN {w : World} {A : Option Addr} {l : List Int} (h : Runes w A l) (n : Nat) : Runes (w.drewN n) A l :=
  h.below (below_drewN (Below.refl _ _) n)

theorem Tryd.infoR : (Tryd.prog.info? 21).map (fun i => (i.zero, i.size, i.bytes)) = some (some (.int .i32 0), 1, 4) := by kernel_rfl

/-- A slice of runes that the call made itself. -/
def Made (w w' : World) (v : Value) (l : List Int) : Prop :=
  w'.ownsRow w.heap.size 21 1 v l.length (l.map (Value.int .i32)) ∧ Below w.heap.size w w'

theorem Made.runes {w w' : World} {v : Value} {l : List Int} (h : Made w w' v l) : ∃ A c, v = .slice A l.length c ∧ Runes w' A l := by
  obtain ⟨h, hb⟩ := h
  rcases h.2 with ⟨rfl, h0⟩ | ⟨g, cap, cur, rfl, _⟩
  · rw [h0]
    obtain rfl := List.eq_nil_of_length_eq_zero h0
    exact ⟨none, 0, rfl, fun i s hs => by simp at hs⟩
  · rename_i hh
    refine ⟨_, _, rfl, fun i s hs => ?_⟩
    have hi : i < l.length := (List.getElem?_eq_some_iff.1 hs).1
    have hc := h.cellAt (g := g) i (by simpa using hi)
    refine ⟨g, 0, rfl, ?_, ?_⟩
    · exact (Array.getElem?_eq_some_iff.1 hh.2.1).1
    · rw [Nat.zero_add, hc, List.getElem?_map, hs]; rfl

theorem own_ge {w : World} {base : Nat} {e : TypeId} {size : Nat} {v : Value} {n : Nat} {xs : List Value} (h : w.ownsRow base e size v n xs) (k : Nat) (hk : v.ownBlock = some k) : base ≤ k := by
  rcases h.2 with ⟨rfl, _⟩ | ⟨g, cap, cur, rfl, hb, _⟩
  · simp [Value.ownBlock] at hk
  · simp [Value.ownBlock] at hk; omega

theorem own_below {w w' : World} {base : Nat} {e : TypeId} {size : Nat} {v : Value} {n : Nat} {xs : List Value} (h : w.ownsRow base e size v n xs) (hb : Below w.heap.size w w') : w'.ownsRow base e size v n xs := by
  obtain ⟨h1, h2⟩ := h
  refine ⟨h1, ?_⟩
  rcases h2 with h2 | ⟨g, cap, cur, rfl, hg, hh, r⟩
  · exact .inl h2
  · exact .inr ⟨g, cap, cur, rfl, hg, (hb.block g (Array.getElem?_eq_some_iff.1 hh).1).trans hh, r⟩
theorem Made.carry {w w1 w2 : World} {v : Value} {l : List Int} (h : Made w w1 v l) (hb : Below w1.heap.size w1 w2) : Made w w2 v l :=
  ⟨own_below h.1 hb, h.2.trans (hb.mono h.2.size)⟩
theorem Made.push {w wr w1 : World} {v v' : Value} {c : Int} {l : List Int} {tmp : Obj} (h : Made w wr v l)
    (hown : w1.ownsRow w.heap.size 21 1 v' (l.length + 1) (l.map (Value.int .i32) ++ [.int .i32 c])) (hg : (wr.alloc tmp).grownBy w1 v.ownBlock) : Made w w1 v' (l ++ [c]) := by
  refine ⟨by simpa using hown, (h.2.alloc h.2.size tmp).grown hg (by have := h.2.size; simp; omega) (own_ge h.1)⟩

def MadePost (w : World) (l : List Int) (e : Ending) (w' : World) : Prop := ∃ v, e = .returned v ∧ Made w w' v l

theorem extract_list (s : ByteArray) (k : Nat) : (s.extract k s.size).data.toList = s.data.toList.drop k := by
  simp only [ByteArray.data_extract, Array.toList_extract, List.extract_eq_take_drop]
  exact List.take_of_length_le (by simp)

/-- Decoding from a place on: what is behind it, and what is told till there. -/
def DecRel (w : World) (s : ByteArray) (at_ : Nat) (v : Value) (wr : World) : Prop :=
  ∃ l, dec s.data.toList = l ++ dec (s.data.toList.drop at_) ∧ l.length ≤ at_ ∧ Made w wr v l

theorem runes_bytes (l : List Int) : (runesBytes l).data.toList = enc l := by
  have h : ∀ (l : List Int) (s : ByteArray), (l.foldl (fun r n => r ++ Utf8.encode n) s).data.toList = s.data.toList ++ enc l := by
    intro l
    induction l with
    | nil => intro s; simp [enc]
    | cons c l ih => intro s; simp only [List.foldl_cons]; rw [ih]; simp [enc, enc1]
  exact (h l ByteArray.empty).trans (by simp)

theorem add_at (b off j : Nat) : (⟨b, off, none⟩ : Addr).add j = ⟨b, off + j, none⟩ := by
  unfold Addr.add
  split <;> simp_all

theorem convert_runes (A : Option Addr) (l : List Int) (c : Nat) (w : World) (h : Runes w A l) : (convert 22 9 (.slice A l.length c)).run Tryd.prog w = .ok (.string (runesBytes l)) w := by
  cases A with
  | none =>
    cases l with
    | nil => exact run_convert_runes_nil w _ _ _ _ _ Tryd.underlying22 Tryd.underlying21 Tryd.underlying9
    | cons x l => obtain ⟨b, off, e, _⟩ := h 0 x rfl; cases e
  | some a =>
    have e := run_convert_runes w 22 9 21 a l.length c l (Nat.le_refl _) Tryd.underlying22 Tryd.underlying21 Tryd.underlying9 (fun j hj => by
      obtain ⟨b, off, e, _, hc⟩ := h j l[j] (List.getElem?_eq_getElem hj)
      obtain rfl := Option.some.inj e
      rw [add_at, hc, List.getD_eq_getElem?_getD, List.getElem?_eq_getElem hj]
      rfl)
    rw [List.take_of_length_le (Nat.le_refl _)] at e
    exact e

/-- Two lists that are the same. -/
def same (a b : List Int) : Bool := decide (a = b)

theorem ne_of_at {a b : List Int} {k : Nat} (ha : k < a.length) (hb : k < b.length) (h : a[k] ≠ b[k]) : same a b = false := by
  simp only [same, decide_eq_false_iff_not]
  rintro rfl
  exact h rfl
theorem ne_of_len {a b : List Int} (h : a.length ≠ b.length) : same a b = false := by
  simp only [same, decide_eq_false_iff_not]
  rintro rfl
  exact h rfl

end Go.Proofs.YtfaieldafoeaiaaDoor

/-
  The document's answers of layer 2 (begin, value, bytes, Decode, Encode, Valid), by their contracts.
-/
namespace Go.Proofs.YtfaieldafoeaiaaDoor
open Go.RowKit

theorem follows_true (a c : Int) (k : Nat) (w : World) (hk : 1 ≤ k) (h : fol a c k = true) :
    Calls Tryd.prog 38 #[.int .u8 a, .int .u8 c, .int .i64 k] w fun e w' => e = .returned (.bool true) ∧ w' = w :=
  (follows_any a c k w hk).mono fun _ _ ⟨he, hw⟩ => ⟨by rw [he, h], hw.symm⟩
theorem follows_false (a c : Int) (k : Nat) (w : World) (hk : 1 ≤ k) (h : fol a c k = false) :
    Calls Tryd.prog 38 #[.int .u8 a, .int .u8 c, .int .i64 k] w fun e w' => e = .returned (.bool false) ∧ w' = w :=
  (follows_any a c k w hk).mono fun _ _ ⟨he, hw⟩ => ⟨by rw [he, h], hw.symm⟩

/-- How many bytes, from a place on, are the longest begin of some scalar's. -/
def begOf (s : ByteArray) (k : Nat) (h : k < s.size) : Nat := if lensOf s[k].toNat = 0 then 0 else ext s[k].toNat (lensOf s[k].toNat) 1 (s.data.toList.drop (k + 1))

def BegRel (s : ByteArray) (k : Nat) (h : k < s.size) (n j : Nat) : Prop :=
  (n = 0 ∧ j = 0) ∨ (1 ≤ n ∧ 1 ≤ j ∧ j ≤ n ∧ k + j ≤ s.size ∧ ext s[k].toNat n 1 (s.data.toList.drop (k + 1)) = ext s[k].toNat n j (s.data.toList.drop (k + j)))

theorem BegRel.ends {s : ByteArray} {k : Nat} {h : k < s.size} {n j : Nat} (r : BegRel s k h n j) (hn : lensOf s[k].toNat = n)
    (hj : ¬ (0 < j ∧ j < n ∧ k + j < s.size) ∨ ∃ hs : k + j < s.size, fol s[k].toNat s[k + j].toNat j = false) : begOf s k h = j := by
  unfold begOf
  rcases r with ⟨h1, h2⟩ | ⟨h1, h2, h3, h4, h5⟩
  · rw [if_pos (by omega), h2]
  · rw [if_neg (by omega), hn, h5]
    rcases hj with hj | ⟨hs, hf⟩
    · by_cases e : j = n
      · subst e; exact ext_full _ _ _ _ (Nat.le_refl _)
      · rw [drop_end s (k + j) (by omega), ext_nil]
    · rw [drop_byte s (k + j) hs, ext_bad _ _ _ _ _ hf]
theorem BegRel.next {s : ByteArray} {k : Nat} {h : k < s.size} {n j : Nat} (r : BegRel s k h n j) (h0 : 0 < j) (h1 : j < n) (h2 : k + j < s.size) (hf : fol s[k].toNat s[k + j].toNat j = true) : BegRel s k h n (j + 1) := by
  rcases r with ⟨h1, h2⟩ | ⟨h1, h2, h3, h4, h5⟩
  · omega
  · refine .inr ⟨h1, by omega, by omega, by omega, ?_⟩
    rw [h5, drop_byte s (k + j) (by omega), ext_good _ _ _ _ _ (by omega) hf]
    rfl

set_option maxHeartbeats 1000000 in
set_option maxRecDepth 100000 in
theorem begin_any (s : ByteArray) (k : Nat) (w : World) (hk0 : k < s.size) (hs : s.size ≤ 2000) :
    Calls Tryd.prog 18 #[.string s, .int .i64 k] w fun e w' => e = .returned (.int .i64 (begOf s k hk0 : Nat)) ∧ Below w.heap.size w w' := by
  have hu := s[k].toNat_lt
  obtain ⟨n, hn⟩ : ∃ n, lensOf s[k].toNat = n := ⟨_, rfl⟩
  have hn4 : n ≤ 4 := by rw [← hn]; exact lensOf_le _
  have HN := Lib.hid hn
  clear hn
  go_enter Tryd.func18, Tryd.ntmps18
  go_wp2_with (go_at_call 19; refine (many_any _ _).mono ?_; rintro e w' ⟨rfl, rfl⟩; rw [HN.out])
  all_goals
    go_loopw [6] (fun i wr => ∃ j : Nat, i = .int .i64 j ∧ BegRel s k hk0 n j ∧ Below w.heap.size w wr) (fun i _ => 4 - (intOf i).toNat)
    case atStart =>
      first
      | exact ⟨1, rfl, .inr ⟨by omega, by omega, by omega, by omega, rfl⟩, Below.refl _ _⟩
      | exact ⟨n, rfl, (by
          by_cases e : n = 0
          · exact .inl ⟨e, e⟩
          · obtain rfl : n = 1 := by omega
            exact .inr ⟨by omega, by omega, by omega, by omega, rfl⟩), Below.refl _ _⟩
    case round =>
      obtain ⟨j, rfl, hr, hb⟩ := hrel
      have hj4 : j ≤ 4 := by rcases hr with h | h <;> omega
      have HR := Lib.hid hr
      clear hr
      by_cases h0 : 0 < j
      · have d0 : decide (0 < (j : Int)) = true := by simpa using h0
        by_cases h1 : j < n
        · have d1 : decide ((j : Int) < (n : Int)) = true := by simpa using h1
          have d1' : decide (j < n) = true := by simpa using h1
          by_cases h2 : k + j < s.size
          · have d2 : decide ((k : Int) + (j : Int) < (s.size : Int)) = true := by simp; omega
            have hku := s[k + j].toNat_lt
            have hin : 0 ≤ (k : Int) + (j : Int) ∧ (k : Int) + (j : Int) < (s.size : Int) := by omega
            by_cases hf : fol s[k].toNat s[k + j].toNat j = true
            · have HF := Lib.hid hf
              have HX := Lib.hid (HR.out.next h0 h1 h2 hf)
              clear hf
              have hwr : IntKind.i64.wrap ((k : Int) + (j : Int)) = (k : Int) + (j : Int) := IntWalk.i64_in _ (by omega)
              have htn : ((k : Int) + (j : Int)).toNat = k + j := by omega
              go_wp2_with fail
              go_quiet ((go_at_call 38; exact Calls.quiet_of_same (follows_true _ _ _ _ h0 HF.out)))

              go_wp2
              go_roundw
              case rel => exact ⟨j + 1, by go_num, HX.out, below_drewN hb _⟩
              case measure => simp [intOf]; omega
            · have HF := Lib.hid (Bool.eq_false_iff.2 hf)
              clear hf
              have hwr : IntKind.i64.wrap ((k : Int) + (j : Int)) = (k : Int) + (j : Int) := IntWalk.i64_in _ (by omega)
              have htn : ((k : Int) + (j : Int)).toNat = k + j := by omega
              go_wp2_with fail
              go_quiet ((go_at_call 38; exact Calls.quiet_of_same (follows_false _ _ _ _ h0 HF.out)))

              go_wp2
              go_ret
              exact ⟨by rw [HR.out.ends HN.out (Or.inr ⟨h2, HF.out⟩)]; rfl, below_drewN hb _⟩
          · have d2 : decide ((k : Int) + (j : Int) < (s.size : Int)) = false := by simp; omega
            have hwr : IntKind.i64.wrap ((k : Int) + (j : Int)) = (k : Int) + (j : Int) := IntWalk.i64_in _ (by omega)
            go_wp2_with fail
            go_quiet (fail)
            go_wp2
            go_ret
            exact ⟨by rw [HR.out.ends HN.out (Or.inl (by omega))]; rfl, below_drewN hb _⟩
        · have d1 : decide ((j : Int) < (n : Int)) = false := by simpa using h1
          have d1' : decide (j < n) = false := by simpa using h1
          go_wp2_with fail
          go_quiet (fail)
          go_wp2
          go_ret
          exact ⟨by rw [HR.out.ends HN.out (Or.inl (by omega))]; rfl, below_drewN hb _⟩
      · have d0 : decide (0 < (j : Int)) = false := by simpa using h0
        go_wp2_with fail
        go_quiet (fail)
        go_wp2
        go_ret
        exact ⟨by rw [HR.out.ends HN.out (Or.inl (by omega))]; rfl, below_drewN hb _⟩

theorem acc_snoc (v : Int) (t : List UInt8) (c : UInt8) : acc v (t ++ [c]) = 64 * acc v t + (c.toNat : Int) - 128 := by
  unfold acc; rw [List.foldl_append]; simp only [List.foldl]; omega

def ValRel (s : ByteArray) (h0 : 0 < s.size) (k : Nat) (v : Int) : Prop :=
  1 ≤ k ∧ k ≤ s.size ∧ v = acc (headBits s[0].toNat s.size) ((s.data.toList.drop 1).take (k - 1)) ∧
  (k = 1 → -300 ≤ v ∧ v ≤ 300) ∧ (k = 2 → -20000 ≤ v ∧ v ≤ 20000) ∧ (k = 3 → -1300000 ≤ v ∧ v ≤ 1300000) ∧ (k = 4 → -90000000 ≤ v ∧ v ≤ 90000000)

theorem ValRel.next {s : ByteArray} {h0 : 0 < s.size} {k : Nat} {v : Int} (r : ValRel s h0 k v) (h : k < s.size) : ValRel s h0 (k + 1) (64 * v + (s[k].toNat : Int) - 128) := by
  obtain ⟨r1, r2, r3, r4, r5, r6, r7⟩ := r
  have hu : s[k].toNat < 256 := s[k].toNat_lt
  refine ⟨by omega, by omega, ?_, by omega, by omega, by omega, by omega⟩
  rw [Nat.add_sub_cancel, take_byte s k h r1, acc_snoc, r3]

set_option maxHeartbeats 1000000 in
set_option maxRecDepth 100000 in
theorem value_any (s : ByteArray) (w : World) (h0 : 0 < s.size) (h4 : s.size ≤ 4) :
    Calls Tryd.prog 20 #[.string s] w fun e w' => e = .returned (.int .i32 (acc (headBits s[0].toNat s.size) (s.data.toList.drop 1))) ∧ Below w.heap.size w w' := by
  have hu := s[0].toNat_lt
  by_cases h1 : s.size = 1
  · have HE : Hid (acc (headBits s[0].toNat s.size) (s.data.toList.drop 1) = s[0].toNat) := by
      show acc (headBits s[0].toNat s.size) (s.data.toList.drop 1) = s[0].toNat
      rw [drop_end s 1 (by omega), h1]
      simp [acc, headBits]
    have he : ((s.size : Int) == 1) = true := by rw [beq_iff_eq]; omega
    clear h1
    go_enter Tryd.func20, Tryd.ntmps20
    go_wp2
    go_ret
    exact ⟨by rw [HE.out]; rfl, Below.refl _ _⟩
  · have hm : s.size = 2 ∨ s.size = 3 ∨ s.size = 4 := by omega
    clear h1
    rcases hm with hm | hm | hm
    all_goals
      have HM := Lib.hid hm
      go_enter Tryd.func20, Tryd.ntmps20
      go_wp2
      go_region
      go_wp2
      go_loopw [3, 4] (fun c i wr => ∃ (k : Nat) (v : Int), i = .int .i64 k ∧ c = .int .i32 v ∧ ValRel s h0 k v ∧ Below w.heap.size w wr) (fun _ i _ => 4 - (intOf i).toNat)
      case atStart =>
        refine ⟨1, _, rfl, rfl, ⟨Nat.le_refl _, by omega, ?_, fun _ => by omega, fun h => by omega, fun h => by omega, fun h => by omega⟩, ((Below.refl _ _).alloc (Nat.le_refl _) _).drew⟩
        simp [acc, headBits, hm]
      case round =>
        obtain ⟨k, v, rfl, rfl, hr, hb⟩ := hrel
        have hkb : 1 ≤ k ∧ k ≤ s.size ∧ -90000000 ≤ v ∧ v ≤ 90000000 ∧ (k < s.size → -1300000 ≤ v ∧ v ≤ 1300000) := by
          obtain ⟨r1, r2, r3, r4, r5, r6, r7⟩ := hr
          omega
        obtain ⟨b1, b2, b3, b4, b5⟩ := hkb
        have HR := Lib.hid hr
        clear hr
        by_cases hlt : k < s.size
        · obtain ⟨b6, b7⟩ := b5 hlt
          have hku := s[k].toNat_lt
          have HX := Lib.hid (HR.out.next hlt)
          have hlt' : k < 4 := by omega
          clear b5
          rw [hm] at hlt b2
          go_wp2
          go_roundw
          case rel => exact ⟨k + 1, _, by go_num, rfl, HX.out, hb⟩
          case measure => simp [intOf]; omega
        · have hk : k = s.size := by omega
          have HE : Hid (v = acc (headBits s[0].toNat s.size) (s.data.toList.drop 1)) := by
            show v = acc (headBits s[0].toNat s.size) (s.data.toList.drop 1)
            obtain ⟨r1, r2, r3, r4, r5, r6, r7⟩ := HR.out
            rw [r3, List.take_of_length_le (by simp; omega)]
          clear hk b5
          rw [hm] at hlt b2
          go_wp2
          go_ret
          exact ⟨by rw [← HE.out]; rfl, hb⟩
end Go.Proofs.YtfaieldafoeaiaaDoor

/-
  The document's answers of layer 2 (bytes, Encode, Decode, Valid), by their contracts.
-/
namespace Go.Proofs.YtfaieldafoeaiaaDoor
open Go.RowKit

theorem Tryd.infoB : (Tryd.prog.info? 5).map (fun i => (i.zero, i.size, i.bytes)) = some (some (.int .u8 0), 1, 1) := by kernel_rfl

/-- The values of bytes. -/
def cellsOf (l : List UInt8) : List Value := l.map fun c => Value.int .u8 (c.toNat : Int)

/-- A slice of bytes that the call made itself. -/
def MadeB (w w' : World) (v : Value) (l : List UInt8) : Prop :=
  w'.ownsRow w.heap.size 5 1 v l.length (cellsOf l) ∧ Below w.heap.size w w'

theorem MadeB.carry {w w1 w2 : World} {v : Value} {l : List UInt8} (h : MadeB w w1 v l) (hb : Below w1.heap.size w1 w2) : MadeB w w2 v l :=
  ⟨own_below h.1 hb, h.2.trans (hb.mono h.2.size)⟩

def BytesPost (c : Int) (w : World) (e : Ending) (w' : World) : Prop :=
  w.alloc (.cells (cellsOf (enc1 c)).toArray 5) = w' ∧ e = .returned (.slice (some ⟨w.heap.size, 0, none⟩) (enc1 c).length (enc1 c).length)

theorem cells1 (c : Int) (h0 : 0 ≤ c) (h1 : c < 128) : (cellsOf (enc1 c)).toArray = #[Value.int .u8 c] ∧ (enc1 c).length = 1 := by
  rw [enc1_one c h0 h1]
  refine ⟨?_, rfl⟩
  simp only [cellsOf, List.map, ofNat_toNat c.toNat (by omega)]
  rw [show ((c.toNat : Nat) : Int) = c by omega]
theorem cells2 (c : Int) (h0 : 128 ≤ c) (h1 : c < 2048) : (cellsOf (enc1 c)).toArray = #[Value.int .u8 (192 + c / 64), Value.int .u8 (128 + c % 64)] ∧ (enc1 c).length = 2 := by
  rw [enc1_two c h0 h1]
  refine ⟨?_, rfl⟩
  simp only [cellsOf, List.map, ofNat_toNat (192 + c.toNat / 64) (by omega), ofNat_toNat (128 + c.toNat % 64) (by omega)]
  rw [show ((192 + c.toNat / 64 : Nat) : Int) = 192 + c / 64 by omega, show ((128 + c.toNat % 64 : Nat) : Int) = 128 + c % 64 by omega]
theorem cells3 (c : Int) (h0 : 2048 ≤ c) (h1 : c < 65536) (h2 : c < 55296 ∨ 57343 < c) : (cellsOf (enc1 c)).toArray = #[Value.int .u8 (224 + c / 4096), Value.int .u8 (128 + c / 64 % 64), Value.int .u8 (128 + c % 64)] ∧ (enc1 c).length = 3 := by
  rw [enc1_three c h0 h1 h2]
  refine ⟨?_, rfl⟩
  simp only [cellsOf, List.map, ofNat_toNat (224 + c.toNat / 4096) (by omega), ofNat_toNat (128 + c.toNat / 64 % 64) (by omega), ofNat_toNat (128 + c.toNat % 64) (by omega)]
  rw [show ((224 + c.toNat / 4096 : Nat) : Int) = 224 + c / 4096 by omega, show ((128 + c.toNat / 64 % 64 : Nat) : Int) = 128 + c / 64 % 64 by omega, show ((128 + c.toNat % 64 : Nat) : Int) = 128 + c % 64 by omega]
theorem cells4 (c : Int) (h0 : 65536 ≤ c) (h1 : c ≤ 1114111) : (cellsOf (enc1 c)).toArray = #[Value.int .u8 (240 + c / 262144), Value.int .u8 (128 + c / 4096 % 64), Value.int .u8 (128 + c / 64 % 64), Value.int .u8 (128 + c % 64)] ∧ (enc1 c).length = 4 := by
  rw [enc1_four c h0 h1]
  refine ⟨?_, rfl⟩
  simp only [cellsOf, List.map, ofNat_toNat (240 + c.toNat / 262144) (by omega), ofNat_toNat (128 + c.toNat / 4096 % 64) (by omega), ofNat_toNat (128 + c.toNat / 64 % 64) (by omega), ofNat_toNat (128 + c.toNat % 64) (by omega)]
  rw [show ((240 + c.toNat / 262144 : Nat) : Int) = 240 + c / 262144 by omega, show ((128 + c.toNat / 4096 % 64 : Nat) : Int) = 128 + c / 4096 % 64 by omega, show ((128 + c.toNat / 64 % 64 : Nat) : Int) = 128 + c / 64 % 64 by omega, show ((128 + c.toNat % 64 : Nat) : Int) = 128 + c % 64 by omega]

theorem cellsOf_append (a b : List UInt8) : cellsOf (a ++ b) = cellsOf a ++ cellsOf b := by simp [cellsOf]
theorem cellsOf_one (l : List UInt8) : ∀ u ∈ cellsOf l, u.oneCell' = true := by
  intro u hu
  obtain ⟨c, _, rfl⟩ := List.mem_map.1 hu
  rfl
theorem MadeB.push {w wr w1 : World} {v v' : Value} {t l : List UInt8} {tmp : Obj} (h : MadeB w wr v l)
    (hown : w1.ownsRow w.heap.size 5 1 v' (l.length + t.length) (cellsOf l ++ cellsOf t)) (hg : (wr.alloc tmp).grownBy w1 v.ownBlock) : MadeB w w1 v' (l ++ t) := by
  refine ⟨by rw [cellsOf_append, List.length_append]; exact hown, (h.2.alloc h.2.size tmp).grown hg (by have := h.2.size; simp; omega) (own_ge h.1)⟩

theorem cells_new (w : World) (l : List Value) (t : TypeId) (j : Nat) (u : Value) (h : l[j]? = some u) : (w.alloc (.cells l.toArray t)).cell? ((⟨w.heap.size, 0, none⟩ : Addr).add j) = some u := by
  rw [add_at, World.cell?_alloc_at _ _ _ _ rfl, Nat.zero_add]
  simpa using h

def EncPost (l : List Int) (w : World) (e : Ending) (w' : World) : Prop :=
  ∃ t : ByteArray, t.data.toList = enc l ∧ e = .returned (.string t) ∧ Below w.heap.size w w'

theorem convert_bytes {w w' : World} {v : Value} {l : List UInt8} (h : MadeB w w' v l) : (convert 38 9 v).run Tryd.prog w' = .ok (.string ⟨l.toArray⟩) w' := by
  rcases h.1.2 with ⟨rfl, h0⟩ | ⟨g, cap, cur, rfl, _⟩
  · obtain rfl := List.eq_nil_of_length_eq_zero h0
    rw [run_convert_bytes_string w' _ _ _ _ _ _ Tryd.underlying38 Tryd.underlying5 Tryd.underlying9]
    rfl
  · exact run_convert_bytes_back w' _ _ _ ⟨g, 0, none⟩ cap l Tryd.underlying38 Tryd.underlying5 Tryd.underlying9 (fun j hj => by
      rw [add_at, Nat.zero_add, h.1.cellAt (g := g) j (by omega)]
      simp [cellsOf, hj])

theorem enc_take (l : List Int) (k : Nat) (h : k < l.length) : enc (l.take (k + 1)) = enc (l.take k) ++ enc1 l[k] := by
  unfold enc
  rw [List.take_succ_eq_append_getElem h, List.flatMap_append, List.flatMap_cons, List.flatMap_nil, List.append_nil]

end Go.Proofs.YtfaieldafoeaiaaDoor

/-
  The document's Decode and Valid of layer 2, by their contracts.
-/
namespace Go.Proofs.YtfaieldafoeaiaaDoor
open Go.RowKit

theorem one_beg_whole {s : ByteArray} {k b : Nat} (h : k < s.size) (hb : begOf s k h = b) (h0 : 0 < b) (hn : b = lensOf s[k].toNat) :
    one (s.data.toList.drop k) = (acc (headBits s[k].toNat b) ((s.data.toList.drop (k + 1)).take (b - 1)), b, true) := by
  unfold begOf at hb
  rw [if_neg (by omega)] at hb
  rw [drop_byte s k h]
  simp only [one]
  rw [if_pos (by omega), ← hn]
theorem one_beg_part {s : ByteArray} {k b : Nat} (h : k < s.size) (hb : begOf s k h = b) (hn : b = 0 ∨ b ≠ lensOf s[k].toNat) :
    one (s.data.toList.drop k) = (65533, max b 1, false) := by
  unfold begOf at hb
  rw [drop_byte s k h]
  simp only [one]
  by_cases e : lensOf s[k].toNat = 0
  · rw [if_pos e] at hb
    rw [e, ext_full _ _ _ _ (by omega), if_neg (by omega), ← hb]
    rfl
  · rw [if_neg e] at hb
    have hg := ext_ge s[k].toNat (lensOf s[k].toNat) (s.data.toList.drop (k + 1)) 1
    rw [if_neg (by omega), hb, Nat.max_eq_left (by omega)]
theorem beg_le {s : ByteArray} {k : Nat} (h : k < s.size) : begOf s k h ≤ 4 ∧ k + begOf s k h ≤ s.size := by
  unfold begOf
  have h1 := ext_le s[k].toNat (lensOf s[k].toNat) (s.data.toList.drop (k + 1)) 1
  have h2 := ext_le_n s[k].toNat (lensOf s[k].toNat) (s.data.toList.drop (k + 1)) 1
  have h3 := lensOf_le s[k].toNat
  simp at h1
  split <;> omega

theorem part_list (s : ByteArray) (k b : Nat) : (s.extract k (k + b)).data.toList = (s.data.toList.drop k).take b := by
  simp only [ByteArray.data_extract, Array.toList_extract, List.extract_eq_take_drop]
  congr 1; omega
theorem part_size (s : ByteArray) (k b : Nat) (h : k + b ≤ s.size) : (s.extract k (k + b)).size = b := by
  simp; omega

def ValPost (v : Int) (w : World) (e : Ending) (w' : World) : Prop := e = .returned (.int .i32 v) ∧ Below w.heap.size w w'
theorem value_part (s : ByteArray) (k b : Nat) (w : World) (hk : k < s.size) (h : k + b ≤ s.size) (h0 : 0 < b) (h4 : b ≤ 4) :
    Calls Tryd.prog 20 #[.string (s.extract k (k + b))] w (ValPost (acc (headBits s[k].toNat b) ((s.data.toList.drop (k + 1)).take (b - 1))) w) := by
  have hsz := part_size s k b h
  refine (value_any (s.extract k (k + b)) w (by omega) (by omega)).mono fun e w' ⟨he, hw⟩ => ⟨?_, hw⟩
  rw [he]
  have e1 := part_list s k b
  have e2 := drop_byte (s.extract k (k + b)) 0 (by omega)
  rw [List.drop_zero, e1, drop_byte s k hk] at e2
  obtain ⟨b', rfl⟩ : ∃ b', b = b' + 1 := ⟨b - 1, by omega⟩
  rw [List.take_succ_cons] at e2
  simp only [List.cons.injEq] at e2
  simp only [hsz, ← e2.1, Nat.add_sub_cancel]
  rw [e1, drop_byte s k hk, List.take_succ_cons]
  rfl

set_option maxHeartbeats 1000000 in
set_option maxRecDepth 100000 in
theorem refDecode_any (s : ByteArray) (w : World) (h1 : s.size ≤ 2000) :
    Calls Tryd.prog 7 #[.string s] w (MadePost w (dec s.data.toList)) := by
  obtain ⟨i0, hi, hz0, hz1, hz2⟩ := info_parts Tryd.infoR
  have HI := Lib.hid (And.intro hi (And.intro hz0 (And.intro hz1 hz2)))
  clear hi hz0 hz1 hz2
  go_enter Tryd.func7, Tryd.ntmps7
  go_wp2
  go_loopw [3, 4] (fun v i wr => ∃ k : Nat, k ≤ s.size ∧ i = .int .i64 k ∧ DecRel w s k v wr) (fun _ i _ => s.size - (intOf i).toNat)
  case atStart => exact ⟨0, Nat.zero_le _, rfl, [], by simp, Nat.le_refl _, World.ownsRow_nil _ _ _ _, Below.refl _ _⟩
  case round =>
    obtain ⟨k, hk, rfl, l, hd, hl, hm⟩ := hrel
    have HD := Lib.hid hd
    have HM := Lib.hid hm
    clear hd hm
    by_cases hlt : k < s.size
    · have hne : s.data.toList.drop k ≠ [] := by intro e; have := congrArg List.length e; simp at this; omega
      have HS := Lib.hid (dec_step hne)
      clear hne
      have hu := s[k].toNat_lt
      obtain ⟨b, hb⟩ : ∃ b, begOf s k hlt = b := ⟨_, rfl⟩
      have hbl := beg_le hlt
      rw [hb] at hbl
      obtain ⟨b4, bs⟩ := hbl
      have HB := Lib.hid hb
      clear hb
      obtain ⟨n, hn⟩ : ∃ n, lensOf s[k].toNat = n := ⟨_, rfl⟩
      have HN := Lib.hid hn
      clear hn
      by_cases hw : 0 < b ∧ b = n
      · obtain ⟨b0, bn⟩ := hw
        have HO := Lib.hid (one_beg_whole hlt HB.out b0 (bn.trans HN.out.symm))
        obtain ⟨c, hc⟩ : ∃ c, acc (headBits s[k].toNat b) ((s.data.toList.drop (k + 1)).take (b - 1)) = c := ⟨_, rfl⟩
        have HC := Lib.hid hc
        clear hc
        have hen : ((b : Int) == (n : Int)) = true := by rw [beq_iff_eq]; omega
        have hen' : (b == n) = true := by rw [beq_iff_eq]; omega
        have b0' : 0 < (b : Int) := by omega
        clear bn
        go_wp2_with (first
          | (go_at_call 18; refine (begin_any _ _ _ hlt h1).mono ?_; rintro e w1 ⟨rfl, hb1⟩; rw [HB.out])
          | (go_at_call 19; refine (many_any _ _).mono ?_; rintro e w' ⟨rfl, rfl⟩; rw [HN.out])
          | (go_at_call 20; refine (value_part _ _ _ _ hlt bs b0 b4).mono ?_; rintro e w2 ⟨rfl, hb2⟩; rw [HC.out]; have HM2 := Lib.hid ((HM.out.carry hb1).carry hb2))
          | (at_builtin
             refine wpList_append_own _ rfl (.tmp 23) (.tmp 31) 22 rfl w.heap.size 21 i0 _ 1 4 Tryd.underlying22 HI.out.1 HI.out.2.1 HI.out.2.2.1 HI.out.2.2.2 rfl (by decide) _ _ _ rfl (HM2.out.1.alloc _) ⟨w2.heap.size, 0, none⟩ 1 1 [.int .i32 c] rfl rfl (cell_one_new _ _ _) (by simp [Value.oneCell']) ?ha ?hb ?hc ?_
             case ha => simp only [maxLen]; omega
             case hb => omega
             case hc => have := HM2.out.2.size; simp; omega
             intro v' w3 hown' hgrow _))
        go_roundw
        case rel =>
          refine ⟨k + b, bs, by go_num, l ++ [c], ?_, by simp; omega, HM2.out.push hown' hgrow⟩
          rw [HD.out, HS.out, HO.out, HC.out]
          simp [List.drop_drop]
        case measure => simp [intOf]; omega
      · have HO := Lib.hid (one_beg_part hlt HB.out (by have := HN.out; omega))
        by_cases b0 : b = 0
        · subst b0
          clear hw
          go_wp2_with (first
            | (go_at_call 18; refine (begin_any _ _ _ hlt h1).mono ?_; rintro e w1 ⟨rfl, hb1⟩; rw [HB.out]; have HM2 := Lib.hid (HM.out.carry hb1))
            | (at_builtin
               refine wpList_append_own _ rfl (.tmp 33) (.tmp 34) 22 rfl w.heap.size 21 i0 _ 1 4 Tryd.underlying22 HI.out.1 HI.out.2.1 HI.out.2.2.1 HI.out.2.2.2 rfl (by decide) _ _ _ rfl (HM2.out.1.alloc _) ⟨w1.heap.size, 0, none⟩ 1 1 [.int .i32 65533] rfl rfl (cell_one_new _ _ _) (by simp [Value.oneCell']) ?ha ?hb ?hc ?_
               case ha => simp only [maxLen]; omega
               case hb => omega
               case hc => have := HM2.out.2.size; simp; omega
               intro v' w3 hown' hgrow _))
          go_roundw
          case rel =>
            refine ⟨k + 1, by omega, by go_num, l ++ [65533], ?_, by simp; omega, HM2.out.push hown' hgrow⟩
            rw [HD.out, HS.out, HO.out]
            simp [List.drop_drop]
          case measure => simp [intOf]; omega
        · have hen : ((b : Int) == (n : Int)) = false := by rw [beq_eq_false_iff_ne]; omega
          have hen' : (b == n) = false := by rw [beq_eq_false_iff_ne]; omega
          have b0' : 0 < (b : Int) := by omega
          have hmx : max b 1 = b := by omega
          rw [hmx] at HO
          clear hw hmx
          go_wp2_with (first
            | (go_at_call 18; refine (begin_any _ _ _ hlt h1).mono ?_; rintro e w1 ⟨rfl, hb1⟩; rw [HB.out]; have HM2 := Lib.hid (HM.out.carry hb1))
            | (go_at_call 19; refine (many_any _ _).mono ?_; rintro e w' ⟨rfl, rfl⟩; rw [HN.out])
            | (at_builtin
               refine wpList_append_own _ rfl (.tmp 33) (.tmp 34) 22 rfl w.heap.size 21 i0 _ 1 4 Tryd.underlying22 HI.out.1 HI.out.2.1 HI.out.2.2.1 HI.out.2.2.2 rfl (by decide) _ _ _ rfl (HM2.out.1.alloc _) ⟨w1.heap.size, 0, none⟩ 1 1 [.int .i32 65533] rfl rfl (cell_one_new _ _ _) (by simp [Value.oneCell']) ?ha ?hb ?hc ?_
               case ha => simp only [maxLen]; omega
               case hb => omega
               case hc => have := HM2.out.2.size; simp; omega
               intro v' w3 hown' hgrow _))
          go_roundw
          case rel =>
            refine ⟨k + b, by omega, by go_num, l ++ [65533], ?_, by simp; omega, HM2.out.push hown' hgrow⟩
            rw [HD.out, HS.out, HO.out]
            simp [List.drop_drop]
          case measure => simp [intOf]; omega
    · have e : k = s.size := by omega
      have HE : Hid (l = dec s.data.toList) := by
        show l = dec s.data.toList
        rw [HD.out, drop_end s k (by omega), dec_nil, List.append_nil]
      go_wp2
      go_ret
      exact ⟨_, rfl, HE.out ▸ HM.out⟩

theorem enc_dec_eq (s t : ByteArray) (ht : t.data.toList = enc (dec s.data.toList)) : (t.toList == s.toList) = vld s.data.toList := by
  rw [ByteArray.toList_eq, ByteArray.toList_eq, ht, vld_eq]
  rw [Bool.eq_iff_iff]; simp

end Go.Proofs.YtfaieldafoeaiaaDoor

/-
  The program's tables of layer 5 as plain lists, and that the package's variables hold them.
-/
namespace Go.Proofs.YtfaieldafoeaiaaDoor
open Go.RowKit

/-- The spans: first, last, what becomes of them, how far off. -/
def spanTab : List (Int × Int × Int × Int) := [(-2147483648, -1, 1, 0), (65, 90, 0, 32), (128, 160, 1, 0), (173, 173, 2, 0), (192, 214, 0, 32), (216, 222, 0, 32), (913, 929, 0, 32), (931, 937, 0, 32), (1024, 1039, 0, 80), (1040, 1071, 0, 32), (5760, 5760, 1, 0), (7838, 7838, 5, 0), (8192, 8202, 1, 0), (8203, 8203, 2, 0), (8206, 8207, 1, 0), (8232, 8239, 1, 0), (8287, 8287, 1, 0), (8288, 8288, 2, 0), (8294, 8297, 1, 0), (12290, 12290, 3, 0), (55296, 57343, 1, 0), (57344, 63743, 1, 0), (64976, 65007, 1, 0), (65279, 65279, 2, 0), (65281, 65374, 4, 0), (65377, 65377, 3, 0), (65529, 65535, 1, 0), (917504, 2147483647, 1, 0)]
def spanAt (i : Nat) : Int × Int × Int × Int := spanTab.getD i (0, 0, 0, 0)
def letterTab : List Int := [97, 99, 101, 105, 110, 111, 117, 121]
def markTab : List Int := [768, 769, 770, 771, 776, 778, 807]
def madeTab : List (List Int) := [[224, 225, 226, 227, 228, 229, 0], [0, 0, 0, 0, 0, 0, 231], [232, 233, 234, 0, 235, 0, 0], [236, 237, 238, 0, 239, 0, 0], [0, 0, 0, 241, 0, 0, 0], [242, 243, 244, 245, 246, 0, 0], [249, 250, 251, 0, 252, 0, 0], [0, 253, 0, 0, 255, 0, 0]]
def madeAt (i j : Nat) : Int := (madeTab.getD i []).getD j 0

/-- The package's variables hold the tables. -/
structure Vars (w : World) : Prop where
  spans : ∀ i, i < 28 → w.cell? ⟨4, i * 4, none⟩ = some (.int .i32 (spanAt i).1) ∧ w.cell? ⟨4, i * 4 + 1, none⟩ = some (.int .i32 (spanAt i).2.1) ∧
    w.cell? ⟨4, i * 4 + 2, none⟩ = some (.int .i64 (spanAt i).2.2.1) ∧ w.cell? ⟨4, i * 4 + 3, none⟩ = some (.int .i32 (spanAt i).2.2.2)
  letters : ∀ i, i < 8 → w.cell? ⟨2, i, none⟩ = some (.int .i32 (letterTab.getD i 0))
  marks : ∀ i, i < 7 → w.cell? ⟨1, i, none⟩ = some (.int .i32 (markTab.getD i 0))
  made : ∀ i j, i < 8 → j < 7 → w.cell? ⟨3, i * 7 + j, none⟩ = some (.int .i32 (madeAt i j))
theorem cell_lt {w : World} {b o : Nat} {v : Value} (h : w.cell? ⟨b, o, none⟩ = some v) : b < w.heap.size := by
  rcases Nat.lt_or_ge b w.heap.size with h' | h'
  · exact h'
  · simp [World.cell?, Array.getElem?_eq_none h'] at h
theorem Vars.below_of {B : Nat} {w w' : World} (h : Vars w) (hb : Below B w w') (h0 : 4 < B) (h1 : 2 < B) (h2 : 1 < B) (h3 : 3 < B) : Vars w' := by
  refine ⟨fun i hi => ?_, fun i hi => ?_, fun i hi => ?_, fun i j hi hj => ?_⟩
  · obtain ⟨a, b, c, d⟩ := h.spans i hi
    exact ⟨(hb.cell (p := ⟨_, _, none⟩) h0).trans a, (hb.cell (p := ⟨_, _, none⟩) h0).trans b, (hb.cell (p := ⟨_, _, none⟩) h0).trans c, (hb.cell (p := ⟨_, _, none⟩) h0).trans d⟩
  · exact (hb.cell (p := ⟨_, _, none⟩) h1).trans (h.letters i hi)
  · exact (hb.cell (p := ⟨_, _, none⟩) h2).trans (h.marks i hi)
  · exact (hb.cell (p := ⟨_, _, none⟩) h3).trans (h.made i j hi hj)
theorem Vars.lt {w : World} (h : Vars w) : 4 < w.heap.size ∧ 2 < w.heap.size ∧ 1 < w.heap.size ∧ 3 < w.heap.size :=
  ⟨cell_lt (h.spans 0 (by omega)).1, cell_lt (h.letters 0 (by omega)), cell_lt (h.marks 0 (by omega)), cell_lt (h.made 0 0 (by omega) (by omega))⟩
theorem Vars.below {w w' : World} (h : Vars w) (hb : Below w.heap.size w w') : Vars w' := h.below_of hb h.lt.1 h.lt.2.1 h.lt.2.2.1 h.lt.2.2.2
/-- What lies above an older world may be written. -/
theorem Vars.belowB {w0 w w' : World} (h : Vars w) (h0 : Vars w0) (hb : Below w0.heap.size w w') : Vars w' := h.below_of hb h0.lt.1 h0.lt.2.1 h0.lt.2.2.1 h0.lt.2.2.2

/-! The search. -/
theorem span_first : ∀ i, i < 28 → ∀ j, j < 28 → i ≤ j → (spanAt i).1 ≤ (spanAt j).1 ∧ (spanAt i).2.1 ≤ (spanAt j).2.1 := by decide +kernel
/-- Where a number stands: a span that holds it. -/
def Holds (c : Int) (i : Nat) : Prop := i < 28 ∧ (spanAt i).1 ≤ c ∧ c ≤ (spanAt i).2.1
/-- No span holds it. -/
def Free (c : Int) : Prop := ∀ i, i < 28 → c < (spanAt i).1 ∨ (spanAt i).2.1 < c
theorem free_of {c : Int} {low : Nat} (h1 : ∀ i, i < low → (spanAt i).2.1 < c) (h2 : ∀ i, i < 28 → low ≤ i → c < (spanAt i).1) : Free c := fun i hi => by
  rcases Nat.lt_or_ge i low with h | h
  · exact .inr (h1 i h)
  · exact .inl (h2 i hi h)
theorem low_of {c : Int} {m : Nat} (hm : m < 28) (h : (spanAt m).2.1 < c) : ∀ i, i < m + 1 → (spanAt i).2.1 < c := fun i hi => by
  have := (span_first i (by omega) m hm (by omega)).2
  omega
theorem high_of {c : Int} {m : Nat} (h : c < (spanAt m).1) : ∀ i, i < 28 → m ≤ i → c < (spanAt i).1 := fun i hi hm => by
  have := (span_first m (by omega) i hi hm).1
  omega
end Go.Proofs.YtfaieldafoeaiaaDoor

/-
  Words for the errors of package fail: chains of wrapped errors in memory, and slices of strings.
-/
namespace Go.Proofs.YtfaieldafoeaiaaDoor
open Go.RowKit

/-- An error value that is 'cs' wrapped round an end (the outermost call first): a number, or nothing. -/
def Chain (w : World) : List ByteArray → Option Int → Value → Prop
  | [], some n, v => v = .iface 30 (.int .i64 n)
  | [], none, v => v = .nilIface
  | c :: cs, o, v => ∃ b v', v = .iface 101 (.pointer (some ⟨b, 0, none⟩)) ∧ b < w.heap.size ∧
      w.cell? ⟨b, 0, none⟩ = some (.string c) ∧ w.cell? ⟨b, 1, none⟩ = some v' ∧ Chain w cs o v'

theorem Chain.below {w w' : World} (hb : Below w.heap.size w w') : ∀ {cs : List ByteArray} {o : Option Int} {v : Value}, Chain w cs o v → Chain w' cs o v
  | [], some _, _, h => h
  | [], none, _, h => h
  | _ :: _, _, _, ⟨b, v', e, hl, h0, h1, h2⟩ =>
    ⟨b, v', e, Nat.lt_of_lt_of_le hl hb.size, (hb.cell (p := ⟨b, 0, none⟩) hl).trans h0, (hb.cell (p := ⟨b, 1, none⟩) hl).trans h1, Chain.below hb h2⟩

/-- A slice of strings that reads as a list; nil let in. -/
def Strs (w : World) (A : Option Addr) (ss : List ByteArray) : Prop :=
  ∀ i s, ss[i]? = some s → ∃ b off, A = some ⟨b, off, none⟩ ∧ b < w.heap.size ∧ w.cell? ⟨b, off + i, none⟩ = some (.string s)

theorem Strs.below {w w' : World} {A : Option Addr} {ss : List ByteArray} (h : Strs w A ss) (hb : Below w.heap.size w w') : Strs w' A ss := by
  intro i s hs
  obtain ⟨b, off, e, hl, hc⟩ := h i s hs
  exact ⟨b, off, e, Nat.lt_of_lt_of_le hl hb.size, (hb.cell (p := ⟨b, off + i, none⟩) hl).trans hc⟩

theorem bytes_same {a b : ByteArray} (h : a = b) : (a.toList == b.toList) = true := by rw [h]; simp
theorem bytes_other {a b : ByteArray} (h : a ≠ b) : (a.toList == b.toList) = false := by
  rw [beq_eq_false_iff_ne, ByteArray.toList_eq, ByteArray.toList_eq]
  exact fun e => h (WideShapes.bytes_inj e)

/-- 20 texts of 60 bytes at most. -/
def few (ss : List ByteArray) : Bool := decide (ss.length ≤ 20) && (ss.take 21).all fun s => decide (s.size ≤ 60)

theorem few_false_long {ss : List ByteArray} (h : ¬ ss.length ≤ 20) : few ss = false := by simp [few]; omega
theorem few_false_at {ss : List ByteArray} {k : Nat} (hk : k < ss.length) (h21 : k < 21) (h : 60 < ss[k].size) : few ss = false := by
  simp only [few, Bool.and_eq_false_iff]
  right
  rw [List.all_eq_false]
  refine ⟨ss[k], ?_, by simp; omega⟩
  rw [List.mem_iff_getElem]
  exact ⟨k, by simp; omega, by simp⟩
theorem few_true {ss : List ByteArray} (hl : ss.length ≤ 20) (h : ∀ j, (hj : j < ss.length) → ss[j].size ≤ 60) : few ss = true := by
  simp only [few, Bool.and_eq_true, decide_eq_true_eq, List.all_eq_true]
  refine ⟨hl, fun s hs => ?_⟩
  obtain ⟨j, hj, rfl⟩ := List.mem_iff_getElem.1 (List.mem_of_mem_take hs)
  exact h j hj
theorem few_len {ss : List ByteArray} (h : few ss = true) : ss.length ≤ 20 := by
  simp only [few, Bool.and_eq_true, decide_eq_true_eq] at h; exact h.1
theorem few_size {ss : List ByteArray} (h : few ss = true) : ∀ s ∈ ss, s.size ≤ 60 := by
  have hl := few_len h
  simp only [few, Bool.and_eq_true, decide_eq_true_eq, List.all_eq_true] at h
  intro s hs
  exact h.2 s (by rw [List.take_of_length_le (by omega)]; exact hs)

end Go.Proofs.YtfaieldafoeaiaaDoor

/-
  The small functions of package fail and of the document's answers, by their contracts.
-/
namespace Go.Proofs.YtfaieldafoeaiaaDoor
open Go.RowKit

set_option maxHeartbeats 400000 in
theorem wrap_nil (s : ByteArray) (w : World) :
    Calls Tryd.prog 34 #[.string s, .nilIface] w fun e w' => e = .returned .nilIface ∧ w = w' := by
  go_enter Tryd.func34, Tryd.ntmps34
  go_wp2
  go_ret
  exact ⟨rfl, rfl⟩

set_option maxHeartbeats 400000 in
theorem wrap_held (s : ByteArray) (u : TypeId) (x : Value) (w : World) :
    Calls Tryd.prog 34 #[.string s, .iface u x] w fun e w' => e = .returned (.iface 101 (.pointer (some ⟨w.heap.size, 0, none⟩))) ∧ w.alloc (.cells #[.string s, .iface u x] 103) = w' := by
  go_enter Tryd.func34, Tryd.ntmps34
  go_wp2
  go_ret
  exact ⟨rfl, rfl⟩

set_option maxHeartbeats 400000 in
theorem unwrap_nil (w : World) :
    Calls Tryd.prog 119 #[.pointer none] w fun e w' => e = .returned .nilIface ∧ w = w' := by
  go_enter Tryd.func119, Tryd.ntmps119
  go_wp2
  go_ret
  exact ⟨rfl, rfl⟩

set_option maxHeartbeats 400000 in
theorem unwrap_at (b : Nat) (v : Value) (w : World) (h : w.cell? ⟨b, 1, none⟩ = some v) :
    Calls Tryd.prog 119 #[.pointer (some ⟨b, 0, none⟩)] w fun e w' => e = .returned v ∧ w = w' := by
  go_enter Tryd.func119, Tryd.ntmps119
  go_wp2
  go_ret
  exact ⟨rfl, rfl⟩

theorem Chain.held {w : World} {cs : List ByteArray} {n : Int} {v : Value} (h : Chain w cs (some n) v) : ∃ u x, v = .iface u x := by
  cases cs with
  | nil => exact ⟨_, _, h⟩
  | cons c cs => obtain ⟨b, v', e, _⟩ := h; exact ⟨_, _, e⟩

theorem Chain.lay {w : World} {cs : List ByteArray} {o : Option Int} {v : Value} (s : ByteArray) (h : Chain w cs o v) :
    Chain (w.alloc (.cells #[.string s, v] 103)) (s :: cs) o (.iface 101 (.pointer (some ⟨w.heap.size, 0, none⟩))) :=
  ⟨w.heap.size, v, rfl, by simp, by simp, by simp, h.below ((Below.refl _ _).alloc (Nat.le_refl _) _)⟩

def AllPost (w : World) (ss : List ByteArray) (n : Int) (e : Ending) (w' : World) : Prop :=
  ∃ u x, e = .returned (.iface u x) ∧ Chain w' ss.reverse (some n) (.iface u x) ∧ Below w.heap.size w w'

def AllRel (w : World) (ss : List ByteArray) (n : Int) (k : Nat) (v : Value) (w' : World) : Prop :=
  ∃ u x, v = .iface u x ∧ Chain w' (ss.take k).reverse (some n) (.iface u x) ∧ Below w.heap.size w w'

end Go.Proofs.YtfaieldafoeaiaaDoor

/-
  errors.As by its contracts, at the two targets that package fail uses. Go's own text of errors.As and errors.as is walked.
-/
namespace Go.Proofs.YtfaieldafoeaiaaDoor
open Go.RowKit Go.Extern.Stop Go.Stop Go.Extern


theorem valueOfE (t : Addr) (w : World) : (ReflectliteValue.unpack (.iface 72 (.pointer (some t)))).run Tryd.prog w
    = .ok (.agg #[.pointer (some ⟨6, 72, none⟩), .pointer (some ⟨w.heap.size, 0, none⟩), .int .u64 150]) (w.alloc (.cells #[.pointer (some t)] 72)) := by kernel_rfl
theorem typeE (a : Addr) (w : World) : (ReflectliteValue.methodAny (ReflectliteValue.valueError "reflectlite.Value.Type" 0) (fun t _ _ _ => ReflectliteType.toType t) #[.agg #[.pointer (some ⟨6, 72, none⟩), .pointer (some a), .int .u64 150]]).run Tryd.prog w
    = .ok (.iface 87 (.agg #[.pointer (some ⟨6, 72, none⟩)])) w := by kernel_rfl
theorem kindPE (w : World) : ((ReflectliteType.abiMethod fun t => (fun a : Nat => Value.int IntKind.u8 (a : Int)) <$> Rtype.kind t) #[.pointer (some ⟨6, 72, none⟩)]).run Tryd.prog w = .ok (.int .u8 22) w := by kernel_rfl
theorem kindEE (w : World) : ((ReflectliteType.abiMethod fun t => (fun a : Nat => Value.int IntKind.u8 (a : Int)) <$> Rtype.kind t) #[.pointer (some ⟨6, 30, none⟩)]).run Tryd.prog w = .ok (.int .u8 2) w := by kernel_rfl
theorem partsPE (a : Addr) (w : World) : (ReflectliteValue.parts (.agg #[.pointer (some ⟨6, 72, none⟩), .pointer (some a), .int .u64 150])).run Tryd.prog w = .ok (some (72, a, 150)) w := by kernel_rfl
theorem elemTE (w : World) : (ReflectliteType.method ReflectliteType.elem #[.agg #[.pointer (some ⟨6, 72, none⟩)]]).run Tryd.prog w = .ok (.iface 87 (.agg #[.pointer (some ⟨6, 30, none⟩)])) w := by kernel_rfl
theorem implementsE (w : World) : (ReflectliteType.relation "Implements" ReflectliteType.implements_ #[.agg #[.pointer (some ⟨6, 30, none⟩)], .iface 87 (.agg #[.pointer (some ⟨6, 25, none⟩)])]).run Tryd.prog w = .ok (.bool true) w := by kernel_rfl
theorem typeOfE (v : Value) (w : World) : (ReflectliteType.typeOf #[.iface 30 v]).run Tryd.prog w = .ok (.iface 87 (.agg #[.pointer (some ⟨6, 30, none⟩)])) w := by kernel_rfl
theorem elemOfE (w : World) : (Rtype.elem? 72).run Tryd.prog w = .ok (some 30) w := by kernel_rfl
theorem mkE (p : Addr) (w : World) : (ReflectliteValue.mk 30 p ReflectliteValue.flagAddr).run Tryd.prog w = .ok (.agg #[.pointer (some ⟨6, 30, none⟩), .pointer (some p), .int .u64 386]) w := by kernel_rfl
theorem partsAE (a : Addr) (w : World) : (ReflectliteValue.parts (.agg #[.pointer (some ⟨6, 30, none⟩), .pointer (some a), .int .u64 386])).run Tryd.prog w = .ok (some (30, a, 386)) w := by kernel_rfl
theorem partsVE (a : Addr) (w : World) : (ReflectliteValue.parts (.agg #[.pointer (some ⟨6, 30, none⟩), .pointer (some a), .int .u64 130])).run Tryd.prog w = .ok (some (30, a, 130)) w := by kernel_rfl
theorem directE (w : World) : (Rtype.directlyAssignable 30 30).run Tryd.prog w = .ok true w := by kernel_rfl


theorem kindEF (w : World) : ((ReflectliteType.abiMethod fun t => (fun a : Nat => Value.int IntKind.u8 (a : Int)) <$> Rtype.kind t) #[.pointer (some ⟨6, 101, none⟩)]).run Tryd.prog w = .ok (.int .u8 22) w := by kernel_rfl
theorem implementsF (w : World) : (ReflectliteType.relation "Implements" ReflectliteType.implements_ #[.agg #[.pointer (some ⟨6, 101, none⟩)], .iface 87 (.agg #[.pointer (some ⟨6, 25, none⟩)])]).run Tryd.prog w = .ok (.bool true) w := by kernel_rfl
theorem typeOfF (v : Value) (w : World) : (ReflectliteType.typeOf #[.iface 101 v]).run Tryd.prog w = .ok (.iface 87 (.agg #[.pointer (some ⟨6, 101, none⟩)])) w := by kernel_rfl
theorem mkF (p : Addr) (w : World) : (ReflectliteValue.mk 101 p ReflectliteValue.flagAddr).run Tryd.prog w = .ok (.agg #[.pointer (some ⟨6, 101, none⟩), .pointer (some p), .int .u64 406]) w := by kernel_rfl
theorem partsAF (a : Addr) (w : World) : (ReflectliteValue.parts (.agg #[.pointer (some ⟨6, 101, none⟩), .pointer (some a), .int .u64 406])).run Tryd.prog w = .ok (some (101, a, 406)) w := by kernel_rfl
theorem partsVF (a : Addr) (w : World) : (ReflectliteValue.parts (.agg #[.pointer (some ⟨6, 101, none⟩), .pointer (some a), .int .u64 150])).run Tryd.prog w = .ok (some (101, a, 150)) w := by kernel_rfl
theorem directF (w : World) : (Rtype.directlyAssignable 101 101).run Tryd.prog w = .ok true w := by kernel_rfl


theorem valueOfErrno (n : Int) (w : World) : (ReflectliteValue.unpack (.iface 30 (.int .i64 n))).run Tryd.prog w
    = .ok (.agg #[.pointer (some ⟨6, 30, none⟩), .pointer (some ⟨w.heap.size, 0, none⟩), .int .u64 130]) (w.alloc (.cells #[.int .i64 n] 30)) := by kernel_rfl
theorem valueOfFail (e : Addr) (w : World) : (ReflectliteValue.unpack (.iface 101 (.pointer (some e)))).run Tryd.prog w
    = .ok (.agg #[.pointer (some ⟨6, 101, none⟩), .pointer (some ⟨w.heap.size, 0, none⟩), .int .u64 150]) (w.alloc (.cells #[.pointer (some e)] 101)) := by kernel_rfl
theorem assignEE (w : World) : (ReflectliteType.relation "AssignableTo" ReflectliteType.assignableTo #[.agg #[.pointer (some ⟨6, 30, none⟩)], .iface 87 (.agg #[.pointer (some ⟨6, 30, none⟩)])]).run Tryd.prog w = .ok (.bool true) w := by kernel_rfl
theorem assignFF (w : World) : (ReflectliteType.relation "AssignableTo" ReflectliteType.assignableTo #[.agg #[.pointer (some ⟨6, 101, none⟩)], .iface 87 (.agg #[.pointer (some ⟨6, 101, none⟩)])]).run Tryd.prog w = .ok (.bool true) w := by kernel_rfl
theorem assignFE (w : World) : (ReflectliteType.relation "AssignableTo" ReflectliteType.assignableTo #[.agg #[.pointer (some ⟨6, 101, none⟩)], .iface 87 (.agg #[.pointer (some ⟨6, 30, none⟩)])]).run Tryd.prog w = .ok (.bool false) w := by kernel_rfl
theorem assignEF (w : World) : (ReflectliteType.relation "AssignableTo" ReflectliteType.assignableTo #[.agg #[.pointer (some ⟨6, 30, none⟩)], .iface 87 (.agg #[.pointer (some ⟨6, 101, none⟩)])]).run Tryd.prog w = .ok (.bool false) w := by kernel_rfl
theorem methodKind (h : Value) (w : World) : (Go.method 270 87 (.agg #[h]) "Kind").run Tryd.prog w = .ok (102, h) w := by kernel_rfl
theorem methodElem (h : Value) (w : World) : (Go.method 270 87 (.agg #[h]) "Elem").run Tryd.prog w = .ok (110, .agg #[h]) w := by kernel_rfl
theorem methodImplements (h : Value) (w : World) : (Go.method 270 87 (.agg #[h]) "Implements").run Tryd.prog w = .ok (111, .agg #[h]) w := by kernel_rfl
theorem methodAssignableTo (h : Value) (w : World) : (Go.method 270 87 (.agg #[h]) "AssignableTo").run Tryd.prog w = .ok (108, .agg #[h]) w := by kernel_rfl
theorem methodComparable (h : Value) (w : World) : (Go.method 270 87 (.agg #[h]) "Comparable").run Tryd.prog w = .ok (109, .agg #[h]) w := by kernel_rfl
theorem methodUnwrap (a : Addr) (w : World) : (Go.method 270 101 (.pointer (some a)) "Unwrap").run Tryd.prog w = .ok (119, .pointer (some a)) w := by kernel_rfl

theorem assertAsE (n : Int) (w : World) : (Instr.typeAssert (.iface 30 (.int .i64 n)) 25 132 true).run Tryd.prog w = .ok (.tuple #[.nilIface, .bool false]) w := run_typeAssert_lacksB Tryd.underlying132 (by kernel_rfl) (by kernel_rfl) _ _ _
theorem assertAsF (a : Addr) (w : World) : (Instr.typeAssert (.iface 101 (.pointer (some a))) 25 132 true).run Tryd.prog w = .ok (.tuple #[.nilIface, .bool false]) w := run_typeAssert_lacksB Tryd.underlying132 (by kernel_rfl) (by kernel_rfl) _ _ _
theorem assertIsE (n : Int) (w : World) : (Instr.typeAssert (.iface 30 (.int .i64 n)) 25 89 true).run Tryd.prog w = .ok (.tuple #[.nilIface, .bool false]) w := run_typeAssert_lacksB Tryd.underlying89 (by kernel_rfl) (by kernel_rfl) _ _ _
theorem assertIsF (a : Addr) (w : World) : (Instr.typeAssert (.iface 101 (.pointer (some a))) 25 89 true).run Tryd.prog w = .ok (.tuple #[.nilIface, .bool false]) w := run_typeAssert_lacksB Tryd.underlying89 (by kernel_rfl) (by kernel_rfl) _ _ _
theorem assertManyE (n : Int) (w : World) : (Instr.typeAssert (.iface 30 (.int .i64 n)) 25 94 true).run Tryd.prog w = .ok (.tuple #[.nilIface, .bool false]) w := run_typeAssert_lacksB Tryd.underlying94 (by kernel_rfl) (by kernel_rfl) _ _ _
theorem assertManyF (a : Addr) (w : World) : (Instr.typeAssert (.iface 101 (.pointer (some a))) 25 94 true).run Tryd.prog w = .ok (.tuple #[.nilIface, .bool false]) w := run_typeAssert_lacksB Tryd.underlying94 (by kernel_rfl) (by kernel_rfl) _ _ _
theorem assertOneE (n : Int) (w : World) : (Instr.typeAssert (.iface 30 (.int .i64 n)) 25 92 true).run Tryd.prog w = .ok (.tuple #[.nilIface, .bool false]) w := run_typeAssert_lacksB Tryd.underlying92 (by kernel_rfl) (by kernel_rfl) _ _ _
theorem assertOneF (a : Addr) (w : World) : (Instr.typeAssert (.iface 101 (.pointer (some a))) 25 92 true).run Tryd.prog w = .ok (.tuple #[.iface 101 (.pointer (some a)), .bool true]) w := by kernel_rfl
end Go.Proofs.YtfaieldafoeaiaaDoor

/-
  In this text, one behind the other: QFind, LMath, NTell, NPut, NRefEnc, NRefEnc2.
-/
import Derived.Test.YtfaieldafoeaiaaGreatDoorG2
import Derived.Test.YtfaieldafoeaiaaGreatDoorG1
/-
  slices.ContainsFunc at the program's closure (is one of these no scalar?), and tell.
-/
namespace Go.Proofs.YtfaieldafoeaiaaGreatDoor
open Go.RowKit

theorem q1_any (c : Int) (w : World) (h0 : -2147483648 ≤ c) (h1 : c < 2147483648) :
    Calls Tryz.prog 46 #[.int .i32 c] w fun e w' => e = .returned (.bool (!(scal c))) ∧ w = w' := by
  go_enter Tryz.func46, Tryz.ntmps46
  go_wp2_with (first
    | (go_at_call 47; refine (qscalar_any _ _).mono ?_; rintro e w' ⟨rfl, rfl⟩))
  go_ret
  exact ⟨rfl, rfl⟩

/-- The place of the first one that is no scalar; -1. -/
def badAt (l : List Int) : Int := if (l.findIdx fun c => !(scal c)) < l.length then ((l.findIdx fun c => !(scal c) : Nat) : Int) else -1
theorem badAt_here {l : List Int} {k : Nat} (h : k < l.length) (hb : scal l[k] = false) (hp : ∀ c ∈ l.take k, scal c = true) : badAt l = k := by
  have : (l.findIdx fun c => !(scal c)) = k := by
    rw [List.findIdx_eq h]
    refine ⟨by simp [hb], fun j hj => ?_⟩
    have := hp l[j] (by rw [List.mem_take_iff_getElem]; exact ⟨j, by omega, rfl⟩)
    simp [this]
  unfold badAt
  rw [this, if_pos h]
theorem badAt_none {l : List Int} (hp : ∀ c ∈ l, scal c = true) : badAt l = -1 := by
  have : (l.findIdx fun c => !(scal c)) = l.length := by
    rw [List.findIdx_eq_length]
    intro c hc
    simp [hp c hc]
  unfold badAt
  rw [this, if_neg (by omega)]
theorem take_snoc {α : Type} {l : List α} {k : Nat} (h : k < l.length) {p : α → Prop} (h1 : ∀ c ∈ l.take k, p c) (h2 : p l[k]) : ∀ c ∈ l.take (k + 1), p c := by
  intro c hc
  rw [List.take_succ_eq_append_getElem h] at hc
  rcases List.mem_append.1 hc with hc | hc
  · exact h1 c hc
  · rw [List.mem_singleton] at hc; subst hc; exact h2

set_option maxHeartbeats 400000 in
theorem qindex_any (A : Option Addr) (l : List Int) (cap : Nat) (w : World) (h : Runes w A l) (hr : ∀ c ∈ l, -2147483648 ≤ c ∧ c < 2147483648) (hl : l.length ≤ 100000) :
    Calls Tryz.prog 41 #[.slice A l.length cap, .func (.func 46) #[] #[]] w fun e w' => e = .returned (.int .i64 (badAt l)) ∧ w = w' := by
  go_enter Tryz.func41, Tryz.ntmps41
  go_wp2
  go_loopw [8] (fun i wr => ∃ k : Nat, k ≤ l.length ∧ i = .int .i64 k ∧ wr = w ∧ ∀ c ∈ l.take k, scal c = true) (fun i _ => l.length - (intOf i).toNat)
  case atStart => exact ⟨0, Nat.zero_le _, rfl, rfl, by simp⟩
  case round =>
    obtain ⟨k, hk, rfl, hw, hp⟩ := hrel
    have := hw.symm; subst this
    have HP := Lib.hid hp
    clear hp hw
    by_cases hlt : k < l.length
    · obtain ⟨b, off, rfl, _, hc⟩ := h k l[k] (List.getElem?_eq_getElem hlt)
      have hr' := hr l[k] (List.getElem_mem hlt)
      clear h hr
      obtain ⟨hr0, hr1⟩ := hr'
      have HC := q1_any l[k] w hr0 hr1
      cases hs : scal l[k] with
      | true =>
        rw [hs] at HC
        have HN := Lib.hid (take_snoc (p := fun c => scal c = true) hlt HP.out hs)
        clear hs
        go_wp2_with (first | (go_at_call 46; refine HC.mono ?_; rintro e w' ⟨rfl, rfl⟩))
        go_roundw
        case rel => exact ⟨k + 1, by omega, by go_num, by first | rfl | trivial, HN.out⟩
        case measure => simp [intOf]; omega
      | false =>
        rw [hs] at HC
        have HN := Lib.hid (badAt_here hlt hs HP.out)
        clear hs
        go_wp2_with (first | (go_at_call 46; refine HC.mono ?_; rintro e w' ⟨rfl, rfl⟩))
        go_ret
        exact ⟨by rw [HN.out]; rfl, rfl⟩
    · have HN : Hid (badAt l = -1) := badAt_none (by have := HP.out; rw [List.take_of_length_le (by omega)] at this; exact this)
      clear h hr
      go_wp2
      go_ret
      exact ⟨by rw [HN.out]; rfl, rfl⟩

def anyBad (l : List Int) : Bool := l.any fun c => !(scal c)
theorem anyBad_at (l : List Int) : decide (0 ≤ badAt l) = anyBad l := by
  unfold badAt anyBad
  rw [Bool.eq_iff_iff, decide_eq_true_eq, List.any_eq_true]
  constructor
  · intro h
    split at h
    · rename_i hlt
      exact ⟨_, List.getElem_mem hlt, List.findIdx_getElem (w := hlt)⟩
    · omega
  · rintro ⟨x, hx, hp⟩
    rw [if_pos (List.findIdx_lt_length_of_exists ⟨x, hx, hp⟩)]
    omega
theorem qcontains_any (A : Option Addr) (l : List Int) (cap : Nat) (w : World) (h : Runes w A l) (hr : ∀ c ∈ l, -2147483648 ≤ c ∧ c < 2147483648) (hl : l.length ≤ 100000) :
    Calls Tryz.prog 16 #[.slice A l.length cap, .func (.func 46) #[] #[]] w fun e w' => e = .returned (.bool (anyBad l)) ∧ w = w' := by
  have HC := qindex_any A l cap w h hr hl
  clear h hr
  have HB := Lib.hid (anyBad_at l)
  go_enter Tryz.func16, Tryz.ntmps16
  go_wp2_with (first | (go_at_call 41; refine HC.mono ?_; rintro e w' ⟨rfl, rfl⟩))
  go_ret
  refine ⟨?_, rfl⟩
  rw [← HB.out]
  try simp

end Go.Proofs.YtfaieldafoeaiaaGreatDoor

/-
  The document of layer 6 as plain functions (a name's part, a name), and what follows of them.
-/
namespace Go.Proofs.YtfaieldafoeaiaaGreatDoor

def xnB : List UInt8 := [120, 110, 45, 45]
def xnI : List Int := [120, 110, 45, 45]
def zs (l : List Nat) : List Int := l.map fun n : Nat => (n : Int)
def plainL (l : List Int) : Bool := l.all fun c => decide (c < 128)
def markL (l : List Int) : Bool := match l with
  | [] => false
  | c :: _ => decide (768 ≤ c) && decide (c ≤ 879)
/-- May a part that was told by letters be? -/
def okDec (s : List UInt8) : Bool := match pdec s with
  | none => false
  | some l => !(plainL (zs l)) && !(markL (zs l)) && decide (foldL (zs l) = some (zs l))
/-- One: a part. -/
def lone (l : List Int) : Option (List UInt8) :=
  if l.all scal then
    if l.take 4 = xnI then (if plainL l && okDec (enc (l.drop 4)) then some (enc l) else none)
    else if plainL l then some (enc l)
    else if markL l then none else some (xnB ++ penc (l.map Int.toNat))
  else none
def partsOf : List Int → List (List Int)
  | [] => [[]]
  | c :: l => if c = 46 then [] :: partsOf l else match partsOf l with
    | [] => [[c]]
    | p :: ps => (c :: p) :: ps
def joinB : List (List UInt8) → List UInt8
  | [] => []
  | [p] => p
  | p :: q :: ps => p ++ 46 :: joinB (q :: ps)
def joinI : List (List Int) → List Int
  | [] => []
  | [p] => p
  | p :: q :: ps => p ++ 46 :: joinI (q :: ps)
def mapOne : List (List Int) → Option (List (List UInt8))
  | [] => some []
  | p :: ps => match lone p, mapOne ps with
    | some x, some xs => some (x :: xs)
    | _, _ => none
/-- All: a name; what forbids it (0: nothing), and what it is told as. -/
def lall (l : List Int) : Nat × List UInt8 := match foldL l with
  | none => (2, [])
  | some f => match mapOne (partsOf f) with
    | none => (2, [])
    | some ps => if joinB ps = [] then (3, []) else (0, joinB ps)

theorem partsOf_ne (l : List Int) : partsOf l ≠ [] := by
  cases l with
  | nil => simp [partsOf]
  | cons c l =>
    unfold partsOf
    split
    · simp
    · split <;> simp
theorem partsOf_dot (l : List Int) : partsOf (46 :: l) = [] :: partsOf l := by simp [partsOf]
theorem partsOf_cons {c : Int} (h : c ≠ 46) {l p : List Int} {ps : List (List Int)} (hl : partsOf l = p :: ps) : partsOf (c :: l) = (c :: p) :: ps := by
  simp only [partsOf, if_neg h, hl]
theorem partsOf_append (a b : List Int) : partsOf (a ++ 46 :: b) = partsOf a ++ partsOf b := by
  induction a with
  | nil => exact partsOf_dot b
  | cons c a ih =>
    by_cases h : c = 46
    · subst h
      rw [List.cons_append, partsOf_dot, partsOf_dot, ih]; rfl
    · cases hp : partsOf a with
      | nil => exact absurd hp (partsOf_ne a)
      | cons p ps =>
        rw [List.cons_append, partsOf_cons h (p := p) (ps := ps ++ partsOf b) (by rw [ih, hp]; rfl), partsOf_cons h hp]; rfl
theorem partsOf_none {l : List Int} (h : (46 : Int) ∉ l) : partsOf l = [l] := by
  induction l with
  | nil => rfl
  | cons c l ih =>
    rw [List.mem_cons, not_or] at h
    exact partsOf_cons (Ne.symm h.1) (ih h.2)
theorem partsOf_free (l : List Int) : ∀ p ∈ partsOf l, (46 : Int) ∉ p := by
  induction l with
  | nil => intro p hp; simp [partsOf] at hp; subst hp; simp
  | cons c l ih =>
    by_cases h : c = 46
    · subst h
      rw [partsOf_dot]
      intro p hp
      rcases List.mem_cons.1 hp with rfl | hp
      · simp
      · exact ih p hp
    · cases hq : partsOf l with
      | nil => exact absurd hq (partsOf_ne l)
      | cons q qs =>
        rw [partsOf_cons h hq]
        intro p hp
        rcases List.mem_cons.1 hp with rfl | hp
        · rw [List.mem_cons, not_or]
          exact ⟨Ne.symm h, ih q (by rw [hq]; simp)⟩
        · exact ih p (by rw [hq]; simp [hp])
theorem joinI_cons (p : List Int) {ps : List (List Int)} (h : ps ≠ []) : joinI (p :: ps) = p ++ 46 :: joinI ps := by
  cases ps with
  | nil => exact absurd rfl h
  | cons q ps => rfl
theorem joinB_cons (p : List UInt8) {ps : List (List UInt8)} (h : ps ≠ []) : joinB (p :: ps) = p ++ 46 :: joinB ps := by
  cases ps with
  | nil => exact absurd rfl h
  | cons q ps => rfl
theorem join_parts (l : List Int) : joinI (partsOf l) = l := by
  induction l with
  | nil => rfl
  | cons c l ih =>
    by_cases h : c = 46
    · subst h
      rw [partsOf_dot, joinI_cons _ (partsOf_ne l), ih]; rfl
    · cases hq : partsOf l with
      | nil => exact absurd hq (partsOf_ne l)
      | cons q qs =>
        rw [partsOf_cons h hq]
        rw [hq] at ih
        cases qs with
        | nil => exact congrArg (c :: ·) ih
        | cons r rs =>
          rw [joinI_cons _ (by simp)] at ih ⊢
          exact congrArg (c :: ·) ih
theorem parts_join : ∀ (qs : List (List Int)), qs ≠ [] → (∀ q ∈ qs, (46 : Int) ∉ q) → partsOf (joinI qs) = qs := by
  intro qs
  induction qs with
  | nil => intro h; exact absurd rfl h
  | cons q qs ih =>
    intro _ hf
    cases qs with
    | nil => exact partsOf_none (hf q (by simp))
    | cons r rs =>
      rw [joinI_cons _ (by simp), partsOf_append, partsOf_none (hf q (by simp)), ih (by simp) (fun x hx => hf x (List.mem_cons_of_mem _ hx))]; rfl

theorem mapOne_append (a b : List (List Int)) : mapOne (a ++ b) = match mapOne a, mapOne b with
    | some x, some y => some (x ++ y)
    | _, _ => none := by
  induction a with
  | nil => rw [List.nil_append]; cases mapOne b <;> rfl
  | cons p a ih =>
    simp only [List.cons_append, mapOne, ih]
    cases lone p <;> cases mapOne a <;> cases mapOne b <;> rfl
theorem mapOne_length {a : List (List Int)} : ∀ {x : List (List UInt8)}, mapOne a = some x → x.length = a.length := by
  induction a with
  | nil => intro x h; simp [mapOne] at h; subst h; rfl
  | cons p a ih =>
    intro x h
    simp only [mapOne] at h
    cases hl : lone p with
    | none => rw [hl] at h; cases h
    | some y =>
      cases hm : mapOne a with
      | none => rw [hl, hm] at h; cases h
      | some ys =>
        rw [hl, hm] at h
        cases h
        rw [List.length_cons, List.length_cons, ih hm]
theorem joinB_append {x y : List (List UInt8)} (hx : x ≠ []) (hy : y ≠ []) : joinB (x ++ y) = joinB x ++ 46 :: joinB y := by
  induction x with
  | nil => exact absurd rfl hx
  | cons p x ih =>
    cases x with
    | nil => exact joinB_cons p hy
    | cons q x =>
      rw [List.cons_append, joinB_cons p (ps := q :: x ++ y) (by simp), ih (by simp), joinB_cons p (ps := q :: x) (by simp)]
      simp

/-- A dot makes no pair. -/
theorem dot_pairs : ∀ p ∈ pairs, p.1 ≠ 46 ∧ p.2.1 ≠ 46 ∧ p.2.2 ≠ 46 := by decide +kernel
theorem dot_left (c : Int) : madeOf 46 c = 0 := by
  apply Classical.byContradiction
  intro h
  exact (dot_pairs _ (madeIn_ne h)).1 rfl
theorem dot_right (c : Int) : madeOf c 46 = 0 := by
  apply Classical.byContradiction
  intro h
  exact (dot_pairs _ (madeIn_ne h)).2.1 rfl
theorem comp_dot (y : List Int) : ∀ (n : Nat) (x : List Int), x.length ≤ n → comp (x ++ 46 :: y) = comp x ++ 46 :: comp y := by
  have h0 : comp (46 :: y) = 46 :: comp y := comp_cons (fun z _ => dot_left z)
  intro n
  induction n with
  | zero =>
    intro x hx
    obtain rfl : x = [] := List.eq_nil_of_length_eq_zero (by omega)
    exact h0
  | succ n ih =>
    intro x hx
    match x, hx with
    | [], _ => exact h0
    | [a], _ =>
      show comp (a :: 46 :: y) = [a] ++ 46 :: comp y
      rw [comp_keep (dot_right a), h0]; rfl
    | a :: b :: t, hx =>
      simp only [List.length_cons] at hx
      show comp (a :: b :: (t ++ 46 :: y)) = _
      by_cases h : madeOf a b = 0
      · rw [comp_keep h, comp_keep h]
        have := ih (b :: t) (by simp; omega)
        rw [List.cons_append] at this
        rw [this]; rfl
      · rw [comp_pair h, comp_pair h, ih t (by omega)]; rfl
theorem comp_short : ∀ (n : Nat) (l : List Int), l.length ≤ n → (comp l).length ≤ l.length := by
  intro n
  induction n with
  | zero => intro l h; obtain rfl : l = [] := List.eq_nil_of_length_eq_zero (by omega); simp [comp]
  | succ n ih =>
    intro l h
    match l, h with
    | [], _ => simp [comp]
    | [a], _ => simp [comp]
    | a :: b :: t, h =>
      simp only [List.length_cons] at h
      by_cases hm : madeOf a b = 0
      · rw [comp_keep hm]
        have := ih (b :: t) (by simp; omega)
        simp only [List.length_cons] at this ⊢
        omega
      · rw [comp_pair hm]
        have := ih t (by omega)
        simp only [List.length_cons]
        omega
theorem comp_parts {x y : List Int} (h : comp (x ++ 46 :: y) = x ++ 46 :: y) : comp x = x ∧ comp y = y := by
  rw [comp_dot y x.length x (Nat.le_refl _)] at h
  have hl := congrArg List.length h
  have h1 := comp_short x.length x (Nat.le_refl _)
  have h2 := comp_short y.length y (Nat.le_refl _)
  simp only [List.length_append, List.length_cons] at hl
  have := List.append_inj h (by omega)
  exact ⟨this.1, by simpa using this.2⟩
theorem comp_each : ∀ (qs : List (List Int)), comp (joinI qs) = joinI qs → ∀ q ∈ qs, comp q = q := by
  intro qs
  induction qs with
  | nil => intro _ q hq; cases hq
  | cons p qs ih =>
    intro h q hq
    cases qs with
    | nil =>
      rcases List.mem_cons.1 hq with rfl | hq
      · exact h
      · cases hq
    | cons r rs =>
      rw [joinI_cons _ (by simp)] at h
      obtain ⟨h1, h2⟩ := comp_parts h
      rcases List.mem_cons.1 hq with rfl | hq
      · exact h1
      · exact ih h2 q hq
theorem mem_join : ∀ (qs : List (List Int)), ∀ q ∈ qs, ∀ x ∈ q, x ∈ joinI qs := by
  intro qs
  induction qs with
  | nil => intro q hq; cases hq
  | cons p qs ih =>
    intro q hq x hx
    cases qs with
    | nil =>
      rcases List.mem_cons.1 hq with rfl | hq
      · exact hx
      · cases hq
    | cons r rs =>
      rw [joinI_cons _ (by simp), List.mem_append]
      rcases List.mem_cons.1 hq with rfl | hq
      · exact .inl hx
      · exact .inr (List.mem_cons_of_mem _ (ih q hq x hx))
/-- A part of what is folded is folded to itself. -/
theorem fold_part {l f : List Int} (h : foldL l = some f) : ∀ q ∈ partsOf f, foldL q = some q := by
  intro q hq
  obtain ⟨h1, h2⟩ := fold_once h
  have hfx : Fixed f := by
    obtain ⟨m, hm, rfl⟩ := Option.map_eq_some_iff.1 h
    exact fixed_comp m.length m (Nat.le_refl _) (fixed_mapAll hm)
  have hqx : Fixed q := fun x hx => hfx x (by have := mem_join (partsOf f) q hq x hx; rwa [join_parts] at this)
  have hc : comp q = q := comp_each (partsOf f) (by rw [join_parts]; exact h2) q hq
  unfold foldL
  rw [mapAll_fixed hqx]
  show some (comp q) = some q
  rw [hc]

theorem all_folds {l f : List Int} (h : foldL l = some f) : lall f = lall l := by
  unfold lall
  rw [h, (fold_once h).1]
theorem all_bad {l : List Int} (h : foldL l = none) : lall l = (2, []) := by unfold lall; rw [h]
theorem fold_dot {a b x y : List Int} (ha : foldL a = some x) (hb : foldL b = some y) : foldL (a ++ 46 :: b) = some (x ++ 46 :: y) := by
  have h46 : foldL [46] = some [46] := by decide +kernel
  have h1 := fold_join ha h46
  have h2 := fold_join h1 hb
  rw [List.append_assoc, List.singleton_append] at h2
  have e1 : comp (x ++ [46]) = x ++ [46] := by rw [comp_dot [] x.length x (Nat.le_refl _), (fold_once ha).2]; rfl
  rw [h2, e1, List.append_assoc, List.singleton_append, comp_dot _ x.length x (Nat.le_refl _), (fold_once ha).2, (fold_once hb).2]
/-- Two names that may be. -/
theorem all_parts {a b : List Int} {s t : List UInt8} (ha : lall a = (0, s)) (hb : lall b = (0, t)) : lall (a ++ 46 :: b) = (0, s ++ 46 :: t) := by
  unfold lall at ha hb
  cases hx : foldL a with
  | none => rw [hx] at ha; cases ha
  | some x =>
    cases hy : foldL b with
    | none => rw [hy] at hb; cases hb
    | some y =>
      rw [hx] at ha
      rw [hy] at hb
      simp only at ha hb
      cases hp : mapOne (partsOf x) with
      | none => rw [hp] at ha; cases ha
      | some p =>
        cases hq : mapOne (partsOf y) with
        | none => rw [hq] at hb; cases hb
        | some q =>
          rw [hp] at ha
          rw [hq] at hb
          simp only at ha hb
          split at ha
          · cases ha
          · split at hb
            · cases hb
            · cases ha; cases hb
              have np : p ≠ [] := fun e => partsOf_ne x (List.eq_nil_of_length_eq_zero (by rw [← mapOne_length hp, e]; rfl))
              have nq : q ≠ [] := fun e => partsOf_ne y (List.eq_nil_of_length_eq_zero (by rw [← mapOne_length hq, e]; rfl))
              unfold lall
              rw [fold_dot hx hy]
              simp only
              rw [partsOf_append, mapOne_append, hp, hq]
              simp only
              rw [joinB_append np nq, if_neg (by simp)]
/-- One that may not be spoils the whole. -/
theorem all_spoilt {a b : List Int} (h : (lall a).1 = 2 ∨ (lall b).1 = 2) : (lall (a ++ 46 :: b)).1 ≠ 0 := by
  cases hx : foldL a with
  | none =>
    have : foldL (a ++ 46 :: b) = none := fold_none (.inl hx)
    rw [all_bad this]; simp
  | some x =>
    cases hy : foldL b with
    | none =>
      have h46 : foldL (46 :: b) = none := fold_none (a := [46]) (.inr hy)
      have : foldL (a ++ 46 :: b) = none := fold_none (.inr h46)
      rw [all_bad this]; simp
    | some y =>
      have key : mapOne (partsOf x) = none ∨ mapOne (partsOf y) = none := by
        unfold lall at h
        rw [hx, hy] at h
        simp only at h
        cases hp : mapOne (partsOf x) with
        | none => exact .inl rfl
        | some p =>
          cases hq : mapOne (partsOf y) with
          | none => exact .inr rfl
          | some q =>
            rw [hp, hq] at h
            simp only at h
            exfalso
            rcases h with h | h
            · split at h <;> simp at h
            · split at h <;> simp at h
      unfold lall
      rw [fold_dot hx hy]
      simp only
      rw [partsOf_append, mapOne_append]
      rcases key with e | e
      · rw [e]; simp
      · rw [e]
        cases mapOne (partsOf x) <;> simp

/-! Told once more. -/
theorem zs_nats {l : List Int} (h : ∀ c ∈ l, 0 ≤ c) : zs (l.map Int.toNat) = l := by
  unfold zs
  rw [List.map_map]
  refine (List.map_congr_left (g := id) fun c hc => ?_).trans (List.map_id _)
  have := h c hc
  show ((c.toNat : Nat) : Int) = c
  omega
theorem nats_zs (l : List Nat) : (zs l).map Int.toNat = l := by
  unfold zs
  rw [List.map_map]
  exact (List.map_congr_left (g := id) fun c _ => by simp).trans (List.map_id _)
theorem enc_plain {l : List Int} (h0 : ∀ c ∈ l, 0 ≤ c) (h1 : ∀ c ∈ l, c < 128) : enc l = l.map fun c => UInt8.ofNat c.toNat := by
  induction l with
  | nil => rfl
  | cons c l ih =>
    show enc1 c ++ enc l = _
    rw [enc1_one c (h0 c (by simp)) (h1 c (by simp)), ih (fun x hx => h0 x (List.mem_cons_of_mem _ hx)) (fun x hx => h1 x (List.mem_cons_of_mem _ hx))]; rfl
/-- The bytes of a text as numbers. -/
def bz (s : List UInt8) : List Int := s.map fun b => (b.toNat : Int)
theorem enc_bz {s : List UInt8} (h : ∀ b ∈ s, b.toNat < 128) : enc (bz s) = s := by
  rw [enc_plain (fun c hc => by obtain ⟨b, _, rfl⟩ := List.mem_map.1 hc; omega) (fun c hc => by obtain ⟨b, hb, rfl⟩ := List.mem_map.1 hc; have := h b hb; omega)]
  unfold bz
  rw [List.map_map]
  exact (List.map_congr_left (g := id) fun b _ => by simp).trans (List.map_id _)
theorem bz_enc {l : List Int} (h0 : ∀ c ∈ l, 0 ≤ c) (h1 : ∀ c ∈ l, c < 128) : bz (enc l) = l := by
  rw [enc_plain h0 h1]
  unfold bz
  rw [List.map_map]
  refine (List.map_congr_left (g := id) fun c hc => ?_).trans (List.map_id _)
  have a0 := h0 c hc
  have a1 := h1 c hc
  show ((UInt8.ofNat c.toNat).toNat : Int) = c
  rw [ofNat_toNat _ (by omega)]
  omega
theorem scal_low {c : Int} (h0 : 0 ≤ c) (h1 : c < 128) : scal c = true := (scal_iff c).2 ⟨h0, by omega, by omega⟩
/-- A text that is small: no byte from 128 on, no capital letter, no dot. -/
def Small6 (s : List UInt8) : Prop := ∀ b ∈ s, b.toNat < 128 ∧ ¬ (65 ≤ b.toNat ∧ b.toNat ≤ 90)
theorem tellK_small6 (bias : Nat) : ∀ (q k : Nat), Small6 (tellK q bias k) ∧ (46 : UInt8) ∉ tellK q bias k := by
  have hd : ∀ n : Fin 36, (dig n.val).toNat < 128 ∧ ¬ (65 ≤ (dig n.val).toNat ∧ (dig n.val).toNat ≤ 90) ∧ dig n.val ≠ 46 := by decide +kernel
  intro q
  induction q using Nat.strongRecOn with
  | _ q ih =>
    intro k
    have ht := thr_pos k bias
    by_cases h : q < thr k bias
    · rw [tellK_small h]
      have := hd ⟨q, by omega⟩
      simp only at this
      refine ⟨fun b hb => ?_, fun hb => ?_⟩
      · rw [List.mem_singleton] at hb; subst hb; exact ⟨this.1, this.2.1⟩
      · rw [List.mem_singleton] at hb; exact this.2.2 hb.symm
    · rw [tellK_more h]
      have hm : (q - thr k bias) % (36 - thr k bias) < 36 - thr k bias := Nat.mod_lt _ (by omega)
      have := hd ⟨thr k bias + (q - thr k bias) % (36 - thr k bias), by omega⟩
      simp only at this
      obtain ⟨i1, i2⟩ := ih ((q - thr k bias) / (36 - thr k bias)) (by
        have h1 : (q - thr k bias) / (36 - thr k bias) ≤ q - thr k bias := Nat.div_le_self _ _
        omega) (k + 36)
      refine ⟨fun b hb => ?_, fun hb => ?_⟩
      · rcases List.mem_cons.1 hb with rfl | hb
        · exact ⟨this.1, this.2.1⟩
        · exact i1 b hb
      · rcases List.mem_cons.1 hb with e | hb
        · exact this.2.2 e.symm
        · exact i2 hb
theorem tells_small6 (basic : Nat) (ds : List Nat) : ∀ (bias h : Nat), Small6 (tells basic ds bias h) ∧ (46 : UInt8) ∉ tells basic ds bias h := by
  induction ds with
  | nil => intro bias h; exact ⟨fun b hb => by simp [tells] at hb, by simp [tells]⟩
  | cons d ds ih =>
    intro bias h
    obtain ⟨a1, a2⟩ := tellK_small6 bias d 36
    obtain ⟨b1, b2⟩ := ih (adapt d (h + 1) (h == basic)) (h + 1)
    refine ⟨fun b hb => ?_, fun hb => ?_⟩
    · rcases List.mem_append.1 hb with hb | hb
      · exact a1 b hb
      · exact b1 b hb
    · rcases List.mem_append.1 hb with hb | hb
      · exact a2 hb
      · exact b2 hb
theorem penc_small6 {l : List Nat} (h : ∀ x ∈ l, x < 128 → ¬ (65 ≤ x ∧ x ≤ 90) ∧ x ≠ 46) : Small6 (penc l) ∧ (46 : UInt8) ∉ penc l := by
  obtain ⟨t1, t2⟩ := tells_small6 (basicOf l).length (deltas l l.length 128 0 (basicOf l).length) 72 (basicOf l).length
  have hb : ∀ b ∈ (basicOf l).map UInt8.ofNat, (b.toNat < 128 ∧ ¬ (65 ≤ b.toNat ∧ b.toNat ≤ 90)) ∧ b ≠ 46 := by
    intro b hb
    obtain ⟨x, hx, rfl⟩ := List.mem_map.1 hb
    have hx2 := basicOf_small l x hx
    have hx3 := h x (List.mem_filter.1 hx).1 hx2
    have e : (UInt8.ofNat x).toNat = x := by simp; omega
    refine ⟨by rw [e]; exact ⟨hx2, hx3.1⟩, fun e2 => ?_⟩
    rw [e2] at e
    exact hx3.2 (by rw [← e]; rfl)
  have hy : ∀ b ∈ (if (basicOf l).length = 0 then ([] : List UInt8) else [45]), (b.toNat < 128 ∧ ¬ (65 ≤ b.toNat ∧ b.toNat ≤ 90)) ∧ b ≠ 46 := by
    intro b hb
    split at hb
    · cases hb
    · rw [List.mem_singleton] at hb; subst hb; decide
  unfold penc
  refine ⟨fun b hb1 => ?_, fun hb1 => ?_⟩
  · rcases List.mem_append.1 hb1 with hb1 | hb1
    · rcases List.mem_append.1 hb1 with hb1 | hb1
      · exact (hb b hb1).1
      · exact (hy b hb1).1
    · exact t1 b hb1
  · rcases List.mem_append.1 hb1 with hb1 | hb1
    · rcases List.mem_append.1 hb1 with hb1 | hb1
      · exact (hb 46 hb1).2 rfl
      · exact (hy 46 hb1).2 rfl
    · exact t2 hb1
theorem fixed_low {x : Int} (h : ¬ Barred x ∧ mapTo x = [x]) : 0 ≤ x ∧ ¬ (65 ≤ x ∧ x ≤ 90) := by
  obtain ⟨h1, h2⟩ := h
  have h0 : 0 ≤ x := by unfold Barred at h1; omega
  refine ⟨h0, fun hc => ?_⟩
  have := (mapTo_small h0 (by omega)).2
  rw [h2] at this
  unfold lowc at this
  rw [if_pos hc] at this
  simp at this
  omega
/-- A part of what is folded, told: small, without dots, and told as itself. -/
theorem one_again {p : List Int} {x : List UInt8} (h : lone p = some x) (hf : foldL p = some p) (hx : Fixed p) (hd : (46 : Int) ∉ p) (hl : p.length ≤ 250) : Small6 x ∧ (46 : UInt8) ∉ x ∧ lone (bz x) = some x := by
  have hlow : ∀ c ∈ p, 0 ≤ c ∧ ¬ (65 ≤ c ∧ c ≤ 90) := fun c hc => fixed_low (hx c hc)
  have hplain : plainL p = true → x = enc p → Small6 x ∧ (46 : UInt8) ∉ x ∧ lone (bz x) = some x := by
    intro hp e
    subst e
    have h1 : ∀ c ∈ p, c < 128 := fun c hc => by
      have := List.all_eq_true.1 hp c hc
      simpa using this
    have h0 : ∀ c ∈ p, 0 ≤ c := fun c hc => (hlow c hc).1
    refine ⟨?_, ?_, by rw [bz_enc h0 h1]; exact h⟩
    · rw [enc_plain h0 h1]
      intro b hb
      obtain ⟨c, hc, rfl⟩ := List.mem_map.1 hb
      have a0 := h0 c hc
      have a1 := h1 c hc
      have a2 := (hlow c hc).2
      have e : (UInt8.ofNat c.toNat).toNat = c.toNat := by simp; omega
      rw [e]
      omega
    · rw [enc_plain h0 h1]
      intro hb
      obtain ⟨c, hc, e⟩ := List.mem_map.1 hb
      have a0 := h0 c hc
      have a1 := h1 c hc
      have e2 := congrArg UInt8.toNat e
      rw [show (UInt8.ofNat c.toNat).toNat = c.toNat by simp; omega] at e2
      have : c = 46 := by
        have e3 : ((46 : UInt8)).toNat = 46 := rfl
        rw [e3] at e2
        omega
      exact hd (this ▸ hc)
  have h' := h
  unfold lone at h
  split at h
  · rename_i hsc
    split at h
    · split at h
      · rename_i hpo
        rw [Bool.and_eq_true] at hpo
        cases h
        exact hplain hpo.1 rfl
      · cases h
    · split at h
      · rename_i hp
        cases h
        exact hplain hp rfl
      · rename_i hnp
        split at h
        · cases h
        · rename_i hnm
          cases h
          have hscal : ∀ n ∈ p.map Int.toNat, sc n = true := by
            intro n hn
            obtain ⟨c, hc, rfl⟩ := List.mem_map.1 hn
            have := (scal_iff c).1 (List.all_eq_true.1 hsc c hc)
            simp only [sc, Bool.and_eq_true, Bool.or_eq_true, decide_eq_true_eq]
            omega
          have hsm := penc_small6 (l := p.map Int.toNat) (fun n hn _ => by
            obtain ⟨c, hc, rfl⟩ := List.mem_map.1 hn
            have := hlow c hc
            refine ⟨by omega, fun e => ?_⟩
            have : c = 46 := by omega
            exact hd (this ▸ hc))
          have hxs : Small6 (xnB ++ penc (p.map Int.toNat)) := by
            intro b hb
            rcases List.mem_append.1 hb with hb | hb
            · exact (show ∀ b ∈ xnB, b.toNat < 128 ∧ ¬ (65 ≤ b.toNat ∧ b.toNat ≤ 90) by decide) b hb
            · exact hsm.1 b hb
          have hzs : zs (p.map Int.toNat) = p := zs_nats (fun c hc => (hlow c hc).1)
          refine ⟨hxs, ?_, ?_⟩
          · intro hb
            rcases List.mem_append.1 hb with hb | hb
            · exact (show (46 : UInt8) ∉ xnB by decide) hb
            · exact hsm.2 hb
          · have e1 : bz (xnB ++ penc (p.map Int.toNat)) = xnI ++ bz (penc (p.map Int.toNat)) := by unfold bz; rw [List.map_append]; rfl
            have e2 : (bz (xnB ++ penc (p.map Int.toNat))).all scal = true := by
              rw [List.all_eq_true]
              intro c hc
              obtain ⟨b, hb, rfl⟩ := List.mem_map.1 hc
              have := hxs b hb
              exact scal_low (by omega) (by omega)
            have e3 : plainL (bz (xnB ++ penc (p.map Int.toNat))) = true := by
              unfold plainL
              rw [List.all_eq_true]
              intro c hc
              obtain ⟨b, hb, rfl⟩ := List.mem_map.1 hc
              have := hxs b hb
              exact decide_eq_true (by omega)
            have e4 : (bz (xnB ++ penc (p.map Int.toNat))).take 4 = xnI := by rw [e1]; rfl
            have e5 : (bz (xnB ++ penc (p.map Int.toNat))).drop 4 = bz (penc (p.map Int.toNat)) := by rw [e1]; rfl
            have e6 : okDec (penc (p.map Int.toNat)) = true := by
              unfold okDec
              rw [pdec_penc hscal (by rw [List.length_map]; exact hl)]
              simp only
              rw [hzs, decide_eq_true hf, Bool.and_true, Bool.and_eq_true, Bool.not_eq_true', Bool.not_eq_true']
              exact ⟨by simpa using hnp, by simpa using hnm⟩
            unfold lone
            rw [if_pos e2, if_pos e4, e5, enc_bz (fun b hb => (hsm.1 b hb).1), e6, e3]
            simp only [Bool.and_true, if_true]
            rw [enc_bz (fun b hb => (hxs b hb).1)]
  · cases h
theorem mapOne_again : ∀ (ps : List (List Int)) (xs : List (List UInt8)), mapOne ps = some xs → (∀ p ∈ ps, foldL p = some p ∧ Fixed p ∧ (46 : Int) ∉ p ∧ p.length ≤ 250) → (∀ x ∈ xs, Small6 x ∧ (46 : UInt8) ∉ x) ∧ mapOne (xs.map bz) = some xs := by
  intro ps
  induction ps with
  | nil => intro xs h _; simp [mapOne] at h; subst h; exact ⟨by simp, rfl⟩
  | cons p ps ih =>
    intro xs h hp
    simp only [mapOne] at h
    cases hl : lone p with
    | none => rw [hl] at h; cases h
    | some y =>
      cases hm : mapOne ps with
      | none => rw [hl, hm] at h; cases h
      | some ys =>
        rw [hl, hm] at h
        cases h
        obtain ⟨q1, q2, q3, q4⟩ := hp p (by simp)
        obtain ⟨a1, a2, a3⟩ := one_again hl q1 q2 q3 q4
        obtain ⟨b1, b2⟩ := ih ys hm (fun q hq => hp q (List.mem_cons_of_mem _ hq))
        refine ⟨fun x hx => ?_, ?_⟩
        · rcases List.mem_cons.1 hx with rfl | hx
          · exact ⟨a1, a2⟩
          · exact b1 x hx
        · simp only [List.map_cons, mapOne, a3, b2]
theorem bz_join : ∀ (xs : List (List UInt8)), bz (joinB xs) = joinI (xs.map bz) := by
  intro xs
  induction xs with
  | nil => rfl
  | cons x xs ih =>
    cases xs with
    | nil => rfl
    | cons y xs =>
      rw [joinB_cons _ (by simp), List.map_cons, joinI_cons _ (by simp), ← ih]
      unfold bz
      rw [List.map_append, List.map_cons]; rfl
theorem small_join : ∀ (xs : List (List UInt8)), (∀ x ∈ xs, Small6 x) → Small6 (joinB xs) := by
  intro xs
  induction xs with
  | nil => intro _ b hb; cases hb
  | cons x xs ih =>
    intro h
    cases xs with
    | nil => exact h x (by simp)
    | cons y xs =>
      rw [joinB_cons _ (by simp)]
      intro b hb
      rcases List.mem_append.1 hb with hb | hb
      · exact h x (by simp) b hb
      · rcases List.mem_cons.1 hb with rfl | hb
        · decide
        · exact ih (fun z hz => h z (List.mem_cons_of_mem _ hz)) b hb
theorem part_length : ∀ (qs : List (List Int)), ∀ q ∈ qs, q.length ≤ (joinI qs).length := by
  intro qs
  induction qs with
  | nil => intro q hq; cases hq
  | cons p qs ih =>
    intro q hq
    cases qs with
    | nil =>
      rcases List.mem_cons.1 hq with rfl | hq
      · exact Nat.le_refl _
      · cases hq
    | cons r rs =>
      rw [joinI_cons _ (by simp), List.length_append, List.length_cons]
      rcases List.mem_cons.1 hq with rfl | hq
      · omega
      · have := ih q hq
        omega
/-- What a name is told as is told as itself. -/
theorem all_once {l f : List Int} {s : List UInt8} (h : lall l = (0, s)) (hf : foldL l = some f) (hl : f.length ≤ 250) : Small6 s ∧ lall (bz s) = (0, s) := by
  have h' := h
  unfold lall at h
  rw [hf] at h
  simp only at h
  cases hm : mapOne (partsOf f) with
  | none => rw [hm] at h; cases h
  | some xs =>
    rw [hm] at h
    simp only at h
    split at h
    · cases h
    · rename_i hne
      cases h
      have hfx : Fixed f := by
        obtain ⟨m, hm2, rfl⟩ := Option.map_eq_some_iff.1 hf
        exact fixed_comp m.length m (Nat.le_refl _) (fixed_mapAll hm2)
      obtain ⟨a1, a2⟩ := mapOne_again (partsOf f) xs hm (fun p hp => ⟨fold_part hf p hp, fun x hx => hfx x (by have := mem_join (partsOf f) p hp x hx; rwa [join_parts] at this), partsOf_free f p hp, by
        have := part_length (partsOf f) p hp
        rw [join_parts] at this
        omega⟩)
      have hsm := small_join xs (fun x hx => (a1 x hx).1)
      refine ⟨hsm, ?_⟩
      have hfold : foldL (bz (joinB xs)) = some (bz (joinB xs)) := by
        rw [fold_small (fun c hc => by
          obtain ⟨b, hb, rfl⟩ := List.mem_map.1 hc
          have := hsm b hb
          omega)]
        congr 1
        refine (List.map_congr_left (g := id) fun c hc => ?_).trans (List.map_id _)
        obtain ⟨b, hb, rfl⟩ := List.mem_map.1 hc
        have := hsm b hb
        show lowc _ = _
        unfold lowc
        rw [if_neg (by omega)]
        rfl
      have hxne : xs ≠ [] := fun e => partsOf_ne f (List.eq_nil_of_length_eq_zero (by rw [← mapOne_length hm, e]; rfl))
      have hparts : partsOf (bz (joinB xs)) = xs.map bz := by
        rw [bz_join]
        refine parts_join _ (by simpa using hxne) (fun q hq => ?_)
        obtain ⟨x, hx, rfl⟩ := List.mem_map.1 hq
        intro hb
        obtain ⟨b, hb, e⟩ := List.mem_map.1 hb
        have : b = 46 := by
          apply UInt8.toNat_inj.1
          have e2 : ((46 : UInt8)).toNat = 46 := rfl
          rw [e2]
          omega
        exact (a1 x hx).2 (this ▸ hb)
      unfold lall
      rw [hfold]
      simp only
      rw [hparts, a2]
      simp only
      rw [if_neg hne]
end Go.Proofs.YtfaieldafoeaiaaGreatDoor

/-
  The document's tell, least, hyphen, weighted, by their contracts.
-/
namespace Go.Proofs.YtfaieldafoeaiaaGreatDoor
open Go.RowKit

def TellPost (l : List UInt8) (w : World) (e : Ending) (w' : World) : Prop := ∃ v, e = .returned v ∧ MadeB w w' v l

set_option maxHeartbeats 1000000 in
set_option maxRecDepth 100000 in
theorem tell_any (q bias : Nat) (x y : Int) (w : World) (hx : x = (q : Int)) (hy : y = (bias : Int)) (hq : q ≤ 4294967296) (hb : bias ≤ 8589934592) :
    Calls Tryz.prog 59 #[.int .i64 x, .int .i64 y] w (TellPost (tellK q bias 36) w) := by
  subst hx; subst hy
  obtain ⟨i0, hi, hz0, hz1, hz2⟩ := info_parts Tryz.infoB
  have HI := Lib.hid (And.intro hi (And.intro hz0 (And.intro hz1 hz2)))
  clear hi hz0 hz1 hz2
  go_enter Tryz.func59, Tryz.ntmps59
  go_wp2
  go_loopw [0, 5, 6] (fun a v b wr => ∃ (q1 k : Nat) (l : List UInt8), a = .int .i64 q1 ∧ b = .int .i64 k ∧ MadeB w wr v l ∧ l ++ tellK q1 bias k = tellK q bias 36 ∧ k + 36 * q1 ≤ 36 + 36 * q ∧ l.length + q1 ≤ q) (fun a _ _ _ => (intOf a).toNat)
  case atStart => exact ⟨q, 36, [], rfl, rfl, ⟨World.ownsRow_nil _ _ _ _, Below.refl _ _⟩, rfl, by omega, by simp⟩
  case round =>
    obtain ⟨q1, k, l, rfl, rfl, hm, hl, hk, hll⟩ := hrel
    have HM := Lib.hid hm
    have HL := Lib.hid hl
    clear hm hl
    have ht := thr_pos k bias
    obtain ⟨t, htt⟩ : ∃ t, thr k bias = t := ⟨_, rfl⟩
    rw [htt] at ht
    obtain ⟨ht0, ht1⟩ := ht
    by_cases h : q1 < t
    · have HS := Lib.hid (tellK_small (bias := bias) (k := k) (q := q1) (by omega))
      have HT := Lib.hid htt
      clear htt
      go_wp2_with (first
        | (go_at_call 84; refine (thr_any k bias _ _ _ rfl rfl (by omega) (by omega)).mono ?_; rintro e w' ⟨rfl, rfl⟩; rw [HT.out])
        | (go_at_call 85; refine (digit_any q1 _ _ rfl (by omega)).mono ?_; rintro e w' ⟨rfl, rfl⟩)
        | (at_builtin
           refine wpList_append_own _ rfl (.tmp 36) (.tmp 39) 49 rfl w.heap.size 5 i0 _ 1 1 Tryz.underlying49 HI.out.1 HI.out.2.1 HI.out.2.2.1 HI.out.2.2.2 rfl (by decide) _ _ _ rfl (HM.out.1.alloc _) ⟨wr.heap.size, 0, none⟩ 1 1 (cellsOf [dig q1]) rfl rfl (cell_one_new _ _ _) (cellsOf_one _) ?ha ?hb ?hc ?_
           case ha => simp only [maxLen]; omega
           case hb => omega
           case hc => have := HM.out.2.size; simp; omega
           intro v' w2 hown' hgrow _))
      go_ret
      refine ⟨_, rfl, ?_⟩
      rw [← HL.out, HS.out]
      exact HM.out.push hown' hgrow
    · have HS := Lib.hid (tellK_more (bias := bias) (k := k) (q := q1) (by omega))
      rw [htt] at HS
      have HT := Lib.hid htt
      clear htt
      obtain ⟨r, hr⟩ : ∃ r, (q1 - t) % (36 - t) = r := ⟨_, rfl⟩
      obtain ⟨q2, hq2⟩ : ∃ q2, (q1 - t) / (36 - t) = q2 := ⟨_, rfl⟩
      rw [hr, hq2] at HS
      have hr0 : r < 36 - t := by rw [← hr]; exact Nat.mod_lt _ (by omega)
      have hq20 : q2 ≤ q1 - t := by rw [← hq2]; exact Nat.div_le_self _ _
      have hri : ((q1 : Int) - (t : Int)) % (36 - (t : Int)) = (r : Int) := by
        rw [← hr, Int.natCast_emod]; congr 1 <;> omega
      have hqi : ((q1 : Int) - (t : Int)) / (36 - (t : Int)) = (q2 : Int) := by
        rw [← hq2, Int.natCast_ediv]; congr 1 <;> omega
      clear hr hq2
      go_wp2_with (first
        | (go_at_call 84; refine (thr_any k bias _ _ _ rfl rfl (by omega) (by omega)).mono ?_; rintro e w' ⟨rfl, rfl⟩; rw [HT.out])
        | (go_at_call 85; refine (digit_any (t + r) _ _ (by omega) (by omega)).mono ?_; rintro e w' ⟨rfl, rfl⟩)
        | (at_builtin
           refine wpList_append_own _ rfl (.tmp 16) (.tmp 26) 49 rfl w.heap.size 5 i0 _ 1 1 Tryz.underlying49 HI.out.1 HI.out.2.1 HI.out.2.2.1 HI.out.2.2.2 rfl (by decide) _ _ _ rfl (HM.out.1.alloc _) ⟨wr.heap.size, 0, none⟩ 1 1 (cellsOf [dig (t + r)]) rfl rfl (cell_one_new _ _ _) (cellsOf_one _) ?ha ?hb ?hc ?_
           case ha => simp only [maxLen]; omega
           case hb => omega
           case hc => have := HM.out.2.size; simp; omega
           intro v' w2 hown' hgrow _))
      go_roundw
      case rel => exact ⟨q2, k + 36, l ++ [dig (t + r)], by go_num, by go_num, HM.out.push hown' hgrow, by rw [← HL.out, HS.out]; simp, by omega, by simp; omega⟩
      case measure => simp [intOf]; omega

/-- Numbers as runes. -/
def ints (l : List Nat) : List Int := l.map fun n : Nat => (n : Int)
theorem ints_length (l : List Nat) : (ints l).length = l.length := by simp [ints]
theorem ints_at (l : List Nat) (k : Nat) (h : k < l.length) : (ints l)[k]? = some ((l[k] : Nat) : Int) := by simp [ints, h]

def leastG (n m : Nat) (l : List Nat) : Nat := l.foldl (fun m c => if n ≤ c ∧ c < m then c else m) m
theorem leastG_succ (n m : Nat) (l : List Nat) (k : Nat) (h : k < l.length) : leastG n m (l.take (k + 1)) = if n ≤ l[k] ∧ l[k] < leastG n m (l.take k) then l[k] else leastG n m (l.take k) := by
  unfold leastG
  rw [List.take_succ_eq_append_getElem h, List.foldl_append]
  rfl

set_option maxHeartbeats 400000 in
theorem least_any (A : Option Addr) (l : List Nat) (cap n : Nat) (x : Int) (w : World) (hx : x = (n : Int)) (hr : Runes w A (ints l)) (hs : ∀ c ∈ l, c < 1114112) (hl : l.length ≤ 1000000) (_ : n ≤ 1114112) :
    Calls Tryz.prog 58 #[.slice A l.length cap, .int .i64 x] w fun e w' => e = .returned (.int .i64 (least l n : Int)) ∧ w = w' := by
  subst hx
  have HR := Lib.hid hr
  have HS := Lib.hid hs
  clear hr hs
  go_enter Tryz.func58, Tryz.ntmps58
  go_wp2
  go_loopw [5, 6] (fun a b wr => ∃ k m : Nat, k ≤ l.length ∧ b = .int .i64 k ∧ a = .int .i64 m ∧ wr = w ∧ m = leastG n 1114112 (l.take k) ∧ m ≤ 1114112) (fun _ b _ => l.length - (intOf b).toNat)
  case atStart => exact ⟨0, 1114112, Nat.zero_le _, rfl, rfl, rfl, rfl, Nat.le_refl _⟩
  case round =>
    obtain ⟨k, m, hk, rfl, rfl, rfl, hm, hm1⟩ := hrel
    have HM := Lib.hid hm
    clear hm
    by_cases hlt : k < l.length
    · obtain ⟨b, off, rfl, _, hc⟩ := HR.out k _ (ints_at l k hlt)
      have hc0 := HS.out l[k] (List.getElem_mem hlt)
      have HT := Lib.hid (leastG_succ n 1114112 l k hlt)
      obtain ⟨c, hce⟩ : ∃ c, l[k] = c := ⟨_, rfl⟩
      rw [hce] at hc hc0 HT
      clear hce
      rw [← HM.out] at HT
      by_cases h1 : n ≤ c
      · by_cases h2 : c < m
        · rw [if_pos ⟨h1, h2⟩] at HT
          go_wp2
          go_roundw
          case rel => exact ⟨k + 1, c, by omega, by go_num, by go_num, by first | rfl | trivial, HT.out.symm, by omega⟩
          case measure => simp [intOf]; omega
        · rw [if_neg (fun e => h2 e.2)] at HT
          go_wp2
          go_roundw
          case rel => exact ⟨k + 1, m, by omega, by go_num, by go_num, by first | rfl | trivial, HT.out.symm, by omega⟩
          case measure => simp [intOf]; omega
      · rw [if_neg (fun e => h1 e.1)] at HT
        go_wp2
        go_roundw
        case rel => exact ⟨k + 1, m, by omega, by go_num, by go_num, by first | rfl | trivial, HT.out.symm, by omega⟩
        case measure => simp [intOf]; omega
    · have HE : Hid (m = least l n) := by
        show m = least l n
        rw [HM.out, List.take_of_length_le (by omega)]
        rfl
      go_wp2
      go_ret
      exact ⟨ret_int (by rw [HE.out]), rfl⟩

theorem drop_cons (s : ByteArray) (k : Nat) (h : k < s.size) : s.data.toList.drop k = s[k]'h :: s.data.toList.drop (k + 1) := by
  rw [List.drop_eq_getElem_cons (by simpa using h)]
  rfl
theorem byte_eq {b : UInt8} {n : Nat} (hn : n < 256) : ((b.toNat : Int) == (n : Int)) = true ↔ b = UInt8.ofNat n := by
  rw [beq_iff_eq]
  constructor
  · intro h
    apply UInt8.toNat_inj.1
    have : b.toNat = n := by omega
    rw [this]
    simp
    omega
  · rintro rfl
    simp
    omega

set_option maxHeartbeats 400000 in
theorem hyphen_any (s : ByteArray) (w : World) (hs : s.size ≤ 1000000) :
    Calls Tryz.prog 81 #[.string s] w fun e w' => e = .returned (.int .i64 (hyph s.data.toList)) ∧ w = w' := by
  go_enter Tryz.func81, Tryz.ntmps81
  go_wp2
  go_loopw [3] (fun a wr => ∃ k : Nat, k ≤ s.size ∧ a = .int .i64 ((k : Int) - 1) ∧ wr = w ∧ (45 : UInt8) ∉ s.data.toList.drop k) (fun a _ => (intOf a + 1).toNat)
  case atStart => exact ⟨s.size, Nat.le_refl _, rfl, rfl, by rw [List.drop_eq_nil_of_le (by simp)]; simp⟩
  case round =>
    obtain ⟨k, hk, rfl, rfl, hm⟩ := hrel
    have HM := Lib.hid hm
    clear hm
    cases k with
    | zero =>
      have HE := Lib.hid (hyph_none (s := s.data.toList) (by simpa using HM.out))
      go_wp2
      go_ret
      exact ⟨ret_int (by rw [HE.out]), rfl⟩
    | succ k =>
      have hlt : k < s.size := by omega
      have hkk : (((k + 1 : Nat) : Int) - 1) = (k : Int) := by omega
      rw [hkk]
      clear hkk
      have hu := (s[k]'hlt).toNat_lt
      by_cases h : s[k]'hlt = 45
      · have he : (((s[k]'hlt).toNat : Int) == 45) = true := by rw [h]; rfl
        have HE : Hid (hyph s.data.toList = (k : Int)) := by
          have hsp : s.data.toList = s.data.toList.take k ++ 45 :: s.data.toList.drop (k + 1) := by
            rw [← h, ← drop_cons s k hlt, List.take_append_drop]
          show hyph s.data.toList = (k : Int)
          rw [hsp, hyph_at HM.out]
          simp
          omega
        clear h
        go_wp2
        go_ret
        exact ⟨ret_int (by rw [HE.out]), rfl⟩
      · have he : (((s[k]'hlt).toNat : Int) == 45) = false := by
          rw [Bool.eq_false_iff]
          exact fun e => h ((byte_eq (n := 45) (by omega)).1 e)
        have HE : Hid ((45 : UInt8) ∉ s.data.toList.drop k) := by
          show (45 : UInt8) ∉ s.data.toList.drop k
          rw [drop_cons s k hlt]
          simp only [List.mem_cons, not_or]
          exact ⟨fun e => h e.symm, HM.out⟩
        clear h
        go_wp2
        go_roundw
        case rel => exact ⟨k, by omega, by go_num, by first | rfl | trivial, HE.out⟩
        case measure => simp [intOf]

/-- What weighted tells: the number and the place behind it; twice 0 where something is wrong. -/
def wres (s : ByteArray) (o : Option (Nat × List UInt8)) : Nat × Nat := match o with
  | none => (0, 0)
  | some (j, r) => (j, s.size - r.length)
theorem par_nil (bias k w i : Nat) : par [] bias k w i = none := rfl
theorem par_cons (c : UInt8) (s : List UInt8) (bias k w i : Nat) : par (c :: s) bias k w i =
    if dval c.toNat < 0 then none
    else if 1099511627776 < i + (dval c.toNat).toNat * w then none
    else if (dval c.toNat).toNat < thr k bias then some (i + (dval c.toNat).toNat * w, s)
    else if 1099511627776 < w * (36 - thr k bias) then none
    else par s bias (k + 36) (w * (36 - thr k bias)) (i + (dval c.toNat).toNat * w) := rfl
theorem dval_lt (c : UInt8) : dval c.toNat < 36 := by
  by_cases h : 0 ≤ dval c.toNat
  · have := (lower_val c h).2.1
    omega
  · omega

set_option maxHeartbeats 1000000 in
set_option maxRecDepth 100000 in
theorem weighted_any (s : ByteArray) (at_ i bias : Nat) (x y z : Int) (w : World) (hx : x = (at_ : Int)) (hy : y = (i : Int)) (hz : z = (bias : Int)) (hs : s.size ≤ 100000) (hat : at_ ≤ s.size) (hi : i ≤ 1099511627776) (hb : bias ≤ 4398046511104) :
    Calls Tryz.prog 82 #[.string s, .int .i64 x, .int .i64 y, .int .i64 z] w fun e w' =>
      e = .returned (.tuple #[.int .i64 ((wres s (par (s.data.toList.drop at_) bias 36 1 i)).1 : Int), .int .i64 ((wres s (par (s.data.toList.drop at_) bias 36 1 i)).2 : Int)]) ∧ w = w' := by
  subst hx; subst hy; subst hz
  obtain ⟨P, hP⟩ : ∃ P, par (s.data.toList.drop at_) bias 36 1 i = P := ⟨_, rfl⟩
  rw [hP]
  have HP := Lib.hid hP
  clear hP
  go_enter Tryz.func82, Tryz.ntmps82
  go_wp2
  go_loopw [1, 2, 10, 11] (fun a b c d wr => ∃ p j v k : Nat, p ≤ s.size ∧ a = .int .i64 p ∧ b = .int .i64 j ∧ c = .int .i64 v ∧ d = .int .i64 k ∧ wr = w ∧ par (s.data.toList.drop p) bias k v j = P ∧ j ≤ 1099511627776 ∧ v ≤ 1099511627776 ∧ k ≤ 36 + 36 * p) (fun a _ _ _ _ => s.size - (intOf a).toNat)
  case atStart => exact ⟨at_, i, 1, 36, hat, rfl, rfl, rfl, rfl, rfl, HP.out, hi, by omega, by omega⟩
  case round =>
    obtain ⟨p, j, v, k, hp, rfl, rfl, rfl, rfl, rfl, hpar, hj, hv, hk⟩ := hrel
    by_cases hlt : p < s.size
    · rw [drop_cons s p hlt, par_cons] at hpar
      have hd36 := dval_lt (s[p]'hlt)
      have hu := (s[p]'hlt).toNat_lt
      have ht := thr_pos k bias
      obtain ⟨t, htt⟩ : ∃ t, thr k bias = t := ⟨_, rfl⟩
      rw [htt] at ht hpar
      obtain ⟨ht0, ht1⟩ := ht
      obtain ⟨g, hg⟩ : ∃ g : Int, dval ((s[p]'hlt).toNat : Int) = g := ⟨_, rfl⟩
      rw [hg] at hpar hd36
      have HT := Lib.hid htt
      have HG := Lib.hid hg
      clear htt hg
      by_cases hg0 : g < 0
      · rw [if_pos hg0] at hpar
        have HQ := Lib.hid hpar
        clear hpar
        go_wp2_with (first
          | (go_at_call 100; refine (value4_any _ _).mono ?_; rintro e w' ⟨rfl, rfl⟩; rw [HG.out])
          | (go_at_call 84; refine (thr_any k bias _ _ _ rfl rfl (by omega) (by omega)).mono ?_; rintro e w' ⟨rfl, rfl⟩; rw [HT.out]))
        go_ret2
        exact ⟨by rw [← HQ.out]; rfl, rfl⟩
      · obtain ⟨d, rfl⟩ : ∃ d : Nat, g = (d : Int) := ⟨g.toNat, by omega⟩
        rw [if_neg hg0] at hpar
        simp only [Int.toNat_natCast] at hpar
        obtain ⟨m, hm⟩ : ∃ m, d * v = m := ⟨_, rfl⟩
        have hmb : m ≤ 35 * 1099511627776 := by
          rw [← hm]
          exact Nat.mul_le_mul (by omega) hv
        have hmi : (d : Int) * (v : Int) = (m : Int) := by rw [← hm]; simp
        rw [hm] at hpar
        clear hm
        by_cases h1 : 1099511627776 < j + m
        · rw [if_pos h1] at hpar
          have HQ := Lib.hid hpar
          clear hpar
          go_wp2_with (first
            | (go_at_call 100; refine (value4_any _ _).mono ?_; rintro e w' ⟨rfl, rfl⟩; rw [HG.out])
            | (go_at_call 84; refine (thr_any k bias _ _ _ rfl rfl (by omega) (by omega)).mono ?_; rintro e w' ⟨rfl, rfl⟩; rw [HT.out]))
          go_ret2
          exact ⟨by rw [← HQ.out]; rfl, rfl⟩
        · rw [if_neg h1] at hpar
          by_cases h2 : d < t
          · rw [if_pos h2] at hpar
            have HQ := Lib.hid hpar
            clear hpar
            have hend : s.size - (s.data.toList.drop (p + 1)).length = p + 1 := by simp; omega
            have HE := Lib.hid hend
            clear hend
            go_wp2_with (first
              | (go_at_call 100; refine (value4_any _ _).mono ?_; rintro e w' ⟨rfl, rfl⟩; rw [HG.out])
              | (go_at_call 84; refine (thr_any k bias _ _ _ rfl rfl (by omega) (by omega)).mono ?_; rintro e w' ⟨rfl, rfl⟩; rw [HT.out]))
            go_ret2
            exact ⟨by rw [← HQ.out]; simp only [wres]; rw [HE.out]; simp, rfl⟩
          · rw [if_neg h2] at hpar
            obtain ⟨v2, hv2⟩ : ∃ v2, v * (36 - t) = v2 := ⟨_, rfl⟩
            have hvb : v2 ≤ 1099511627776 * 35 := by
              rw [← hv2]
              exact Nat.mul_le_mul hv (by omega)
            have hvi : (v : Int) * (36 - (t : Int)) = (v2 : Int) := by
              rw [← hv2, Int.natCast_mul]; congr 1; omega
            rw [hv2] at hpar
            clear hv2
            by_cases h3 : 1099511627776 < v2
            · rw [if_pos h3] at hpar
              have HQ := Lib.hid hpar
              clear hpar
              go_wp2_with (first
                | (go_at_call 100; refine (value4_any _ _).mono ?_; rintro e w' ⟨rfl, rfl⟩; rw [HG.out])
                | (go_at_call 84; refine (thr_any k bias _ _ _ rfl rfl (by omega) (by omega)).mono ?_; rintro e w' ⟨rfl, rfl⟩; rw [HT.out]))
              go_ret2
              exact ⟨by rw [← HQ.out]; rfl, rfl⟩
            · rw [if_neg h3] at hpar
              have HQ := Lib.hid hpar
              clear hpar
              go_wp2_with (first
                | (go_at_call 100; refine (value4_any _ _).mono ?_; rintro e w' ⟨rfl, rfl⟩; rw [HG.out])
                | (go_at_call 84; refine (thr_any k bias _ _ _ rfl rfl (by omega) (by omega)).mono ?_; rintro e w' ⟨rfl, rfl⟩; rw [HT.out]))
              go_roundw
              case rel => exact ⟨p + 1, j + m, v2, k + 36, by omega, by go_num, by go_num, by go_num, by go_num, by first | rfl | trivial, HQ.out, by omega, by omega, by omega⟩
              case measure => simp [intOf]; omega
    · have HQ : Hid (none = P) := by
        show none = P
        rw [← hpar, List.drop_eq_nil_of_le (by simp; omega)]
        rfl
      clear hpar
      go_wp2
      go_ret2
      exact ⟨by rw [← HQ.out]; rfl, rfl⟩
end Go.Proofs.YtfaieldafoeaiaaGreatDoor

/-
  The document's put: a list with a code point at a place.
-/
namespace Go.Proofs.YtfaieldafoeaiaaGreatDoor
open Go.RowKit

theorem ints_ins (l : List Nat) (p n : Nat) : ints (ins l p n) = (ints l).take p ++ [(n : Int)] ++ (ints l).drop p := by
  simp [ints, ins, List.map_take, List.map_drop]

def PutPost (l : List Int) (w : World) (e : Ending) (w' : World) : Prop := ∃ v, e = .returned v ∧ Made w w' v l

set_option maxHeartbeats 1000000 in
set_option maxRecDepth 100000 in
theorem put_at (b off : Nat) (l : List Int) (cap p : Nat) (c x : Int) (w : World) (hx : x = (p : Int)) (hr : Runes w (some ⟨b, off, none⟩) l) (hl : l.length ≤ 1000) (hcap : l.length ≤ cap) (hp : p ≤ l.length) :
    Calls Tryz.prog 83 #[.slice (some ⟨b, off, none⟩) l.length cap, .int .i64 x, .int .i32 c] w (PutPost (l.take p ++ [c] ++ l.drop p) w) := by
  subst hx
  have HR := Lib.hid hr
  clear hr
  obtain ⟨L, hL⟩ : ∃ L, l.take p ++ [c] ++ l.drop p = L := ⟨_, rfl⟩
  rw [hL]
  have HL := Lib.hid hL
  clear hL
  go_enter Tryz.func83, Tryz.ntmps83
  have hb0 : Below w.heap.size w (w.alloc (.cells #[] 21)) := (Below.refl _ _).alloc (Nat.le_refl _) _
  have HB0 := Lib.hid hb0
  clear hb0
  go_wp2_with (first
    | (at_builtin
       refine append_from rfl (.tmp 8) (.tmp 11) rfl w.heap.size _ [] (some ⟨b, off, none⟩) p cap (l.take p) rfl rfl (rowN_new w) ((HR.out.below HB0.out).take p) (by simp; omega) (by simp) (by simp; omega) (by simp) ?_
       intro v1 w1 hr1 hb1
       have HR1 := Lib.hid hr1
       have HB1 := Lib.hid (HB0.out.trans hb1)
       clear hr1 hb1)
    | (at_builtin
       refine append_from rfl (.tmp 13) (.tmp 15) rfl w.heap.size v1 _ (some ⟨w1.heap.size, 0, none⟩) 1 1 [c] rfl rfl (HR1.out.below ((Below.refl _ _).alloc (Nat.le_refl _) _)) (runes_one w1 c) rfl (by simp) ?q1 ?q2 ?_
       case q1 => simp; omega
       case q2 => have := HB1.out.size; simp; omega
       intro v2 w2 hr2 hb2
       have HR2 := Lib.hid hr2
       have HB2 := Lib.hid (HB1.out.trans (((Below.refl _ _).alloc HB1.out.size _).trans hb2))
       clear hr2 hb2)
    | (at_builtin
       refine append_from rfl (.tmp 17) (.tmp 20) rfl w.heap.size v2 _ (if cap = p then some ⟨b, off, none⟩ else some ⟨b, off + p, none⟩) (l.length - p) (cap - p) (l.drop p) rfl rfl HR2.out (Runes.tail (HR.out.below HB2.out) hcap) (by simp) (fun e => by split at e <;> cases e) ?q3 HB2.out.size ?_
       case q3 => simp; omega
       intro v3 w3 hr3 hb3
       have HR3 := Lib.hid hr3
       have HB3 := Lib.hid (HB2.out.trans hb3)
       clear hr3 hb3))
  all_goals
    go_ret
    exact ⟨_, rfl, HL.out ▸ HR3.out, HB3.out⟩

set_option maxHeartbeats 1000000 in
set_option maxRecDepth 100000 in
theorem put_nil (c x : Int) (w : World) (hx : x = 0) :
    Calls Tryz.prog 83 #[.slice none 0 0, .int .i64 x, .int .i32 c] w (PutPost [c] w) := by
  subst hx
  go_enter Tryz.func83, Tryz.ntmps83
  have hb0 : Below w.heap.size w (w.alloc (.cells #[] 21)) := (Below.refl _ _).alloc (Nat.le_refl _) _
  have HB0 := Lib.hid hb0
  clear hb0
  go_wp2_with (first
    | (at_builtin
       refine append_from rfl (.tmp 8) (.tmp 11) rfl w.heap.size _ [] none 0 0 [] rfl rfl (rowN_new w) Runes.nil_ rfl (fun _ => rfl) (by simp) (by simp) ?_
       intro v1 w1 hr1 hb1
       have HR1 := Lib.hid hr1
       have HB1 := Lib.hid (HB0.out.trans hb1)
       clear hr1 hb1)
    | (at_builtin
       refine append_from rfl (.tmp 13) (.tmp 15) rfl w.heap.size v1 _ (some ⟨w1.heap.size, 0, none⟩) 1 1 [c] rfl rfl (HR1.out.below ((Below.refl _ _).alloc (Nat.le_refl _) _)) (runes_one w1 c) rfl (by simp) ?q1 ?q2 ?_
       case q1 => simp
       case q2 => have := HB1.out.size; simp; omega
       intro v2 w2 hr2 hb2
       have HR2 := Lib.hid hr2
       have HB2 := Lib.hid (HB1.out.trans (((Below.refl _ _).alloc HB1.out.size _).trans hb2))
       clear hr2 hb2)
    | (at_builtin
       refine append_from rfl (.tmp 17) (.tmp 20) rfl w.heap.size v2 _ none 0 0 [] rfl rfl HR2.out Runes.nil_ rfl (fun _ => rfl) (by simp) HB2.out.size ?_
       intro v3 w3 hr3 hb3
       have HR3 := Lib.hid hr3
       have HB3 := Lib.hid (HB2.out.trans hb3)
       clear hr3 hb3))
  go_ret
  exact ⟨_, rfl, HR3.out, HB3.out⟩

/-- put, of a list that the call made. -/
theorem put_any (W w : World) (v : Value) (l : List Nat) (p n : Nat) (x c : Int) (hx : x = (p : Int)) (hc : c = (n : Int)) (hm : Made W w v (ints l)) (hl : l.length ≤ 1000) (hp : p ≤ l.length) :
    Calls Tryz.prog 83 #[v, .int .i64 x, .int .i32 c] w (PutPost (ints (ins l p n)) w) := by
  subst hc
  have hrow := hm.1
  obtain ⟨A, cap, rfl, hr⟩ := hm.runes
  rw [ints_ins]
  cases A with
  | none =>
    cases l with
    | cons y l => obtain ⟨b, off, e, _⟩ := hr 0 (y : Int) (by simp [ints]); cases e
    | nil =>
      have hcap : cap = 0 := by
        rcases hrow.2 with ⟨h0, _⟩ | ⟨g, cap', cur, h0, _⟩
        · cases h0; rfl
        · cases h0
      subst hcap
      simp at hp
      subst hp
      exact put_nil _ _ _ hx
  | some ad =>
    have hcap : (ints l).length ≤ cap ∧ ∃ g, ad = ⟨g, 0, none⟩ := by
      rcases hrow.2 with ⟨h0, _⟩ | ⟨g, cap', cur, h0, _, _, hle, _⟩
      · cases h0
      · cases h0; exact ⟨hle, g, rfl⟩
    obtain ⟨hcap, g, rfl⟩ := hcap
    exact put_at g 0 (ints l) cap p n x w hx hr (by rw [ints_length]; omega) hcap (by rw [ints_length]; exact hp)
end Go.Proofs.YtfaieldafoeaiaaGreatDoor

/-
  The document's Encode of layer 4, by its contract.
-/
namespace Go.Proofs.YtfaieldafoeaiaaGreatDoor
open Go.RowKit

theorem MadeB.form {w w' : World} {v : Value} {l : List UInt8} (h : MadeB w w' v l) : ∃ A c, v = .slice A l.length c := by
  rcases h.1.2 with ⟨rfl, h0⟩ | ⟨g, cap, cur, rfl, _⟩
  · exact ⟨none, 0, by rw [h0]⟩
  · exact ⟨_, _, rfl⟩
/-- 'append(s, x...)', both of them bytes of the call's own, x not empty. -/
theorem append_bytes {ops : Array Oper} {rest : List Oper} {o : Oper} {a : Act} {Q : Exit → Act → World → Prop} {W w0 w : World} (hgd : o.guard = none) (s x : Operand)
    (ho : o.op = .call { callee := .builtin .append, args := #[s, x], argTypes := #[49, 49] })
    (v vx : Value) (l lx : List UInt8) (hs : a.eval s = v) (hx : a.eval x = vx) (h1 : MadeB W w v l) (h2 : MadeB w0 w vx lx) (hne : lx ≠ []) (hl : l.length + lx.length ≤ 100000000000)
    (h : ∀ v' w', MadeB W w' v' (l ++ lx) → wpList Tryz.prog ops Q rest (a.put o.dst v') w') : wpList Tryz.prog ops Q (o :: rest) a w := by
  obtain ⟨i0, hi, hz0, hz1, hz2⟩ := info_parts Tryz.infoB
  rcases h2.1.2 with ⟨_, h0⟩ | ⟨g, cap, cur, rfl, _⟩
  · exact absurd (List.eq_nil_of_length_eq_zero h0) hne
  · refine wpList_append_own w hgd s x _ ho W.heap.size 5 i0 _ 1 1 Tryz.underlying49 hi hz0 hz1 hz2 rfl (by decide) v _ _ hs h1.1 ⟨g, 0, none⟩ lx.length cap (cellsOf lx) hx (by simp [cellsOf]) (fun j u hu => ?_) (cellsOf_one _) (by simp only [maxLen]; omega) (by omega) h1.2.size (fun v' w' hown hg _ => h v' w' ⟨?_, ?_⟩)
    · rw [add_at, Nat.zero_add, h2.1.cellAt (g := g) j (by have := (List.getElem?_eq_some_iff.1 hu).1; simpa [cellsOf] using this)]
      exact hu
    · rw [List.length_append, cellsOf_append]; exact hown
    · exact h1.2.grown hg h1.2.size (own_ge h1.1)

theorem sc_scal (n : Nat) : scal (n : Int) = sc n := by
  unfold scal sc
  by_cases h1 : n ≤ 1114111 <;> by_cases h2 : n < 55296 <;> by_cases h3 : 57343 < n <;> simp [h1, h2, h3] <;> omega
theorem basic_succ_lt (l : List Nat) (k : Nat) (h : k < l.length) (hc : l[k] < 128) : (basicOf (l.take (k + 1))).map UInt8.ofNat = (basicOf (l.take k)).map UInt8.ofNat ++ [UInt8.ofNat l[k]] := by
  unfold basicOf
  rw [List.take_succ_eq_append_getElem h, List.filter_append, List.filter_cons_of_pos (by simpa using hc)]
  simp
theorem basic_succ_ge (l : List Nat) (k : Nat) (h : k < l.length) (hc : ¬ l[k] < 128) : (basicOf (l.take (k + 1))).map UInt8.ofNat = (basicOf (l.take k)).map UInt8.ofNat := by
  unfold basicOf
  rw [List.take_succ_eq_append_getElem h, List.filter_append, List.filter_cons_of_neg (by simpa using hc)]
  simp
theorem basic_length (l : List Nat) : (basicOf l).length ≤ l.length := List.length_filter_le _ _

def TextTwo (t : ByteArray) (n : Int) (w : World) (e : Ending) (w' : World) : Prop := e = .returned (.tuple #[.string t, .int .i64 n]) ∧ Below w.heap.size w w'

set_option maxHeartbeats 1000000 in
set_option maxRecDepth 100000 in
theorem refEnc_bad (A : Option Addr) (l : List Int) (cap : Nat) (w : World) (hr : Runes w A l) (hl : l.length ≤ 250) (hbad : ¬ ∀ c ∈ l, scal c = true) :
    Calls Tryz.prog 27 #[.slice A l.length cap] w (TextTwo ⟨#[]⟩ 2 w) := by
  obtain ⟨i0, hi, hz0, hz1, hz2⟩ := info_parts Tryz.infoB
  have HI := Lib.hid (And.intro hi (And.intro hz0 (And.intro hz1 hz2)))
  have HR := Lib.hid hr
  have HBad := Lib.hid hbad
  clear hi hz0 hz1 hz2 hr hbad
  go_enter Tryz.func27, Tryz.ntmps27
  go_wp2
  go_loopw [4, 5] (fun v i wr => ∃ (k : Nat) (bs : List UInt8), k ≤ l.length ∧ i = .int .i64 k ∧ MadeB w wr v bs ∧ bs.length ≤ k ∧ ∀ c ∈ l.take k, scal c = true) (fun _ i _ => l.length - (intOf i).toNat)
  case atStart => exact ⟨0, [], Nat.zero_le _, rfl, ⟨World.ownsRow_nil _ _ _ _, Below.refl _ _⟩, Nat.le_refl _, fun c hc => by simp at hc⟩
  case round =>
    obtain ⟨k, bs, hk, rfl, hm, hbs, hsc⟩ := hrel
    have HM := Lib.hid hm
    have HS := Lib.hid hsc
    clear hsc
    by_cases hlt : k < l.length
    · obtain ⟨b, off, rfl, _, hc⟩ := (HR.out.below hm.2) k l[k] (List.getElem?_eq_getElem hlt)
      have HT : Hid (scal l[k] = true → ∀ c ∈ l.take (k + 1), scal c = true) := by
        intro h c hc
        rw [List.take_succ_eq_append_getElem hlt, List.mem_append, List.mem_singleton] at hc
        rcases hc with hc | rfl
        · exact HS.out c hc
        · exact h
      clear hm
      obtain ⟨x, hx⟩ : ∃ x, l[k] = x := ⟨_, rfl⟩
      rw [hx] at hc HT
      clear hx
      by_cases hsx : scal x = true
      · have HX := Lib.hid hsx
        have hx0 := (scal_iff x).1 hsx
        clear hsx
        by_cases h128 : x < 128
        · have HC : Hid ((x : Int) = ((UInt8.ofNat x.toNat).toNat : Int)) := by
            show (x : Int) = ((UInt8.ofNat x.toNat).toNat : Int)
            rw [ofNat_toNat x.toNat (by omega)]; omega
          have hcell : cellsOf [UInt8.ofNat x.toNat] = [.int .u8 x] := by simp only [cellsOf, List.map]; rw [← HC.out]
          have HCell := Lib.hid hcell
          obtain ⟨hx1, hx2, hx3⟩ := hx0
          clear hcell hx3
          go_wp2_with (first
            | (go_at_call 22; refine (scalar_true _ _ HX.out).mono ?_; rintro e w' ⟨rfl, rfl⟩)
            | (at_builtin
               refine wpList_append_own _ rfl (.tmp 33) (.tmp 39) 49 rfl w.heap.size 5 i0 _ 1 1 Tryz.underlying49 HI.out.1 HI.out.2.1 HI.out.2.2.1 HI.out.2.2.2 rfl (by decide) _ _ _ rfl (HM.out.1.alloc _) ⟨wr.heap.size, 0, none⟩ 1 1 [.int .u8 x] rfl rfl (cell_one_new _ _ _) (by simp [Value.oneCell']) ?ha ?hb ?hc ?_
               case ha => simp only [maxLen]; omega
               case hb => omega
               case hc => have := HM.out.2.size; simp; omega
               intro v' w2 hown' hgrow _))
          go_roundw
          case rel => exact ⟨k + 1, bs ++ [UInt8.ofNat x.toNat], by omega, by go_num, HM.out.push (t := [UInt8.ofNat x.toNat]) (by rw [HCell.out]; exact hown') hgrow, by simp; omega, HT.out HX.out⟩
          case measure => simp [intOf]; omega
        · clear hx0
          go_wp2_with (go_at_call 22; refine (scalar_true _ _ HX.out).mono ?_; rintro e w' ⟨rfl, rfl⟩)
          go_roundw
          case rel => exact ⟨k + 1, bs, by omega, by go_num, HM.out, by omega, HT.out HX.out⟩
          case measure => simp [intOf]; omega
      · have HX := Lib.hid (Bool.eq_false_iff.2 hsx)
        clear hsx
        go_wp2_with (go_at_call 22; refine (scalar_false _ _ HX.out).mono ?_; rintro e w' ⟨rfl, rfl⟩)
        go_ret2
        exact ⟨rfl, HM.out.2⟩
    · exfalso
      have := HS.out
      rw [List.take_of_length_le (by omega)] at this
      exact HBad.out this
end Go.Proofs.YtfaieldafoeaiaaGreatDoor

/-
  The document's Encode of layer 4 at scalars, by its contract.
-/
namespace Go.Proofs.YtfaieldafoeaiaaGreatDoor
open Go.RowKit

theorem filt_count (l : List Nat) (m : Nat) : (l.filter (· < m + 1)).length = (l.filter (· < m)).length + l.count m := by
  induction l with
  | nil => rfl
  | cons c l ih =>
    by_cases h1 : c < m
    · rw [List.filter_cons_of_pos (by simp; omega), List.filter_cons_of_pos (by simpa using h1), List.count_cons_of_ne (by omega)]
      simp only [List.length_cons]; omega
    · by_cases h2 : c = m
      · subst h2
        rw [List.filter_cons_of_pos (by simp), List.filter_cons_of_neg (by simp), List.count_cons_self]
        simp only [List.length_cons]; omega
      · rw [List.filter_cons_of_neg (by simp; omega), List.filter_cons_of_neg (by simp; omega), List.count_cons_of_ne (by omega)]
        exact ih
theorem count_take (l : List Nat) (m k : Nat) (h : k < l.length) : (l.take (k + 1)).count m = (l.take k).count m + (if l[k] = m then 1 else 0) := by
  rw [List.take_succ_eq_append_getElem h, List.count_append, List.count_singleton]
  simp
/-- What is still to be told, inside a pass. -/
def restOf (ln : List Nat) (f m : Nat) (t : List Nat) (d h : Nat) : List Nat := (scan m t d).1 ++ deltas ln f (m + 1) ((scan m t d).2 + 1) (h + (scan m t d).1.length)
theorem rest_nil (ln : List Nat) (f m d h : Nat) : restOf ln f m [] d h = deltas ln f (m + 1) (d + 1) h := rfl
theorem rest_lt (ln : List Nat) (f m c d h : Nat) (t : List Nat) (hc : c < m) : restOf ln f m (c :: t) d h = restOf ln f m t (d + 1) h := by
  unfold restOf; rw [show scan m (c :: t) d = scan m t (d + 1) by simp [scan, hc]]
theorem rest_gt (ln : List Nat) (f m c d h : Nat) (t : List Nat) (hc : m < c) : restOf ln f m (c :: t) d h = restOf ln f m t d h := by
  unfold restOf; rw [show scan m (c :: t) d = scan m t d by simp [scan, show ¬ c < m by omega, show ¬ c = m by omega]]
theorem rest_eq (ln : List Nat) (f m d h : Nat) (t : List Nat) : restOf ln f m (m :: t) d h = d :: restOf ln f m t 0 (h + 1) := by
  unfold restOf
  rw [show scan m (m :: t) d = (d :: (scan m t 0).1, (scan m t 0).2) by simp [scan]]
  simp only [List.cons_append, List.length_cons]
  rw [show h + ((scan m t 0).1.length + 1) = h + 1 + (scan m t 0).1.length by omega]
theorem deltas_more (ln : List Nat) (f n d h : Nat) (hh : h < ln.length) : deltas ln (f + 1) n d h = restOf ln f (least ln n) ln (d + (least ln n - n) * (h + 1)) h := by
  rw [deltas, if_pos hh]; rfl
theorem deltas_done (ln : List Nat) (f n d h : Nat) (hh : ¬ h < ln.length) : deltas ln f n d h = [] := by
  cases f with
  | zero => rfl
  | succ f => rw [deltas, if_neg hh]
theorem tellK_length (bias : Nat) : ∀ (q k : Nat), (tellK q bias k).length ≤ q + 1 := by
  intro q
  induction q using Nat.strongRecOn with
  | _ q ih =>
    intro k
    have ht := thr_pos k bias
    by_cases h : q < thr k bias
    · rw [tellK_small h]; simp
    · rw [tellK_more h, List.length_cons]
      have h1 : (q - thr k bias) / (36 - thr k bias) ≤ q - thr k bias := Nat.div_le_self _ _
      have := ih ((q - thr k bias) / (36 - thr k bias)) (by omega) (k + 36)
      omega

theorem beq_cast (a b : Nat) : ((a : Int) == (b : Int)) = (a == b) := by
  by_cases h : a = b
  · subst h; simp
  · rw [beq_eq_false_iff_ne.2 h, beq_eq_false_iff_ne.2 (by omega)]
theorem filt_same {l : List Nat} {n m : Nat} (h1 : n ≤ m) (h2 : ∀ c ∈ l, n ≤ c → m ≤ c) : l.filter (· < n) = l.filter (· < m) := by
  refine List.filter_congr fun c hc => ?_
  have := h2 c hc
  by_cases h : c < n
  · simp [h]; omega
  · simp [h]; exact this (by omega)

/-- The outer loop: what is told, and what is still to be told. -/
def EncRel (w : World) (ln : List Nat) (v : Value) (n d bias h : Nat) (wr : World) : Prop :=
  ∃ (f : Nat) (acc : List UInt8), MadeB w wr v acc ∧ acc ++ tells (basicOf ln).length (deltas ln f n d h) bias h = penc ln ∧ h = (ln.filter (· < n)).length ∧ ln.length - h ≤ f ∧
    n ≤ 1114112 ∧ d ≤ 251 * n ∧ bias ≤ 1000000000 ∧ acc.length ≤ (h + 1) * 300000000
/-- The inner loop. -/
def PassRel (w : World) (ln : List Nat) (f m x : Nat) (v : Value) (d bias h : Nat) (wr : World) : Prop :=
  ∃ acc : List UInt8, MadeB w wr v acc ∧ acc ++ tells (basicOf ln).length (restOf ln f m (ln.drop x) d h) bias h = penc ln ∧ h = (ln.filter (· < m)).length + (ln.take x).count m ∧
    d ≤ 251 * m + x ∧ bias ≤ 1000000000 ∧ acc.length ≤ (h + 1) * 300000000

set_option maxHeartbeats 2000000 in
set_option maxRecDepth 100000 in
theorem refEnc_good (A : Option Addr) (ln : List Nat) (cap : Nat) (w : World) (hr : Runes w A (ints ln)) (hl : ln.length ≤ 250) (hs : ∀ c ∈ ln, sc c = true) :
    Calls Tryz.prog 27 #[.slice A ln.length cap] w (TextTwo ⟨(penc ln).toArray⟩ 0 w) := by
  obtain ⟨i0, hi, hz0, hz1, hz2⟩ := info_parts Tryz.infoB
  have HI := Lib.hid (And.intro hi (And.intro hz0 (And.intro hz1 hz2)))
  have HR := Lib.hid hr
  have HS := Lib.hid hs
  have HLt : Hid (∀ c ∈ ln, c < 1114112) := fun c hc => sc_lt (hs c hc)
  have hbl := basic_length ln
  clear hi hz0 hz1 hz2 hr hs
  go_enter Tryz.func27, Tryz.ntmps27
  go_wp2
  go_loopw [4, 5] (fun v i wr => ∃ k : Nat, k ≤ ln.length ∧ i = .int .i64 k ∧ MadeB w wr v ((basicOf (ln.take k)).map UInt8.ofNat)) (fun _ i _ => ln.length - (intOf i).toNat)
  case atStart => exact ⟨0, Nat.zero_le _, rfl, ⟨World.ownsRow_nil _ _ _ _, Below.refl _ _⟩⟩
  case round =>
    obtain ⟨k, hk, rfl, hm⟩ := hrel
    have HM := Lib.hid hm
    have hbk : ((basicOf (ln.take k)).map UInt8.ofNat).length ≤ 250 := by
      have := basic_length (ln.take k)
      rw [List.length_map]
      rw [List.length_take] at this
      omega
    by_cases hlt : k < ln.length
    · obtain ⟨b, off, rfl, _, hc⟩ := (HR.out.below hm.2) k _ (ints_at ln k hlt)
      have HX : Hid (scal (ln[k] : Int) = true) := by
        show scal (ln[k] : Int) = true
        rw [sc_scal]; exact HS.out _ (List.getElem_mem hlt)
      have hx0 := HLt.out _ (List.getElem_mem hlt)
      have HG := Lib.hid (basic_succ_ge ln k hlt)
      have HL := Lib.hid (basic_succ_lt ln k hlt)
      clear hm
      obtain ⟨x, hx⟩ : ∃ x, ln[k] = x := ⟨_, rfl⟩
      rw [hx] at hc HX hx0 HG HL
      clear hx
      obtain ⟨bs, hbs⟩ : ∃ bs, (basicOf (ln.take k)).map UInt8.ofNat = bs := ⟨_, rfl⟩
      rw [hbs] at HM hbk HG HL
      clear hbs
      by_cases h128 : x < 128
      · have HL := Lib.hid (HL.out h128)
        have HCell : Hid (cellsOf [UInt8.ofNat x] = [.int .u8 (x : Int)]) := by
          show cellsOf [UInt8.ofNat x] = [.int .u8 (x : Int)]
          simp only [cellsOf, List.map]; rw [ofNat_toNat x (by omega)]
        go_wp2_with (first
          | (go_at_call 22; refine (scalar_true _ _ HX.out).mono ?_; rintro e w' ⟨rfl, rfl⟩)
          | (at_builtin
             refine wpList_append_own _ rfl (.tmp 33) (.tmp 39) 49 rfl w.heap.size 5 i0 _ 1 1 Tryz.underlying49 HI.out.1 HI.out.2.1 HI.out.2.2.1 HI.out.2.2.2 rfl (by decide) _ _ _ rfl (HM.out.1.alloc _) ⟨wr.heap.size, 0, none⟩ 1 1 [.int .u8 (x : Int)] rfl rfl (cell_one_new _ _ _) (by simp [Value.oneCell']) ?ha ?hb ?hc ?_
             case ha => simp only [maxLen]; omega
             case hb => omega
             case hc => have := HM.out.2.size; simp; omega
             intro v' w2 hown' hgrow _))
        go_roundw
        case rel => exact ⟨k + 1, by omega, by go_num, by rw [HL.out]; exact HM.out.push (t := [UInt8.ofNat x]) (by rw [HCell.out]; exact hown') hgrow⟩
        case measure => simp [intOf]; omega
      · have HG := Lib.hid (HG.out h128)
        go_wp2_with (go_at_call 22; refine (scalar_true _ _ HX.out).mono ?_; rintro e w' ⟨rfl, rfl⟩)
        go_roundw
        case rel => exact ⟨k + 1, by omega, by go_num, by rw [HG.out]; exact HM.out⟩
        case measure => simp [intOf]; omega
    · have HM : Hid (MadeB w wr u4 ((basicOf ln).map UInt8.ofNat)) := by
        rw [List.take_of_length_le (by omega)] at hm
        exact hm
      clear hm hbk
      obtain ⟨nb, hnb⟩ : ∃ nb, (basicOf ln).length = nb := ⟨_, rfl⟩
      obtain ⟨A4, c4, e4⟩ := HM.out.form
      rw [List.length_map, hnb] at e4
      subst e4
      have hnb60 : nb ≤ 250 := by omega
      have HNb := Lib.hid hnb
      clear hnb hbl
      obtain ⟨a0, ha0⟩ : ∃ a0 : List UInt8, (basicOf ln).map UInt8.ofNat ++ (if nb = 0 then [] else [45]) = a0 := ⟨_, rfl⟩
      have HPe : Hid (a0 ++ tells (basicOf ln).length (deltas ln ln.length 128 0 nb) 72 nb = penc ln) := by
        show a0 ++ tells (basicOf ln).length (deltas ln ln.length 128 0 nb) 72 nb = penc ln
        unfold penc
        rw [HNb.out, ← ha0]
      have HA0 : Hid (a0.length ≤ (nb + 1) * 300000000) := by
        show a0.length ≤ _
        rw [← ha0, List.length_append, List.length_map, HNb.out]
        split <;> simp <;> omega
      by_cases hz : nb = 0
      · have HM0 : Hid (MadeB w wr (.slice A4 nb c4) a0) := by
          show MadeB _ _ _ _
          rw [← ha0, if_pos hz, List.append_nil]
          exact HM.out
        have hz1 : ¬ ((0 : Int) < (nb : Int)) := by omega
        clear hz ha0
        go_wp2
        go_loopw [4, 7, 8, 9, 10] (fun v a b c d wx => ∃ n dl bias h : Nat, a = .int .i64 n ∧ b = .int .i64 dl ∧ c = .int .i64 bias ∧ d = .int .i64 h ∧ EncRel w ln v n dl bias h wx) (fun _ _ _ _ d _ => ln.length - (intOf d).toNat)
        case atStart => exact ⟨128, 0, 72, nb, rfl, rfl, rfl, by go_num, ln.length, a0, HM0.out, HPe.out, HNb.out.symm, by omega, by omega, by omega, by omega, HA0.out⟩
        case round =>
          obtain ⟨n, dl, bias, h, rfl, rfl, rfl, rfl, f, acc, hm, hacc, hh, hf, hn, hd, hbi, hal⟩ := hrel
          have h60 : h ≤ ln.length := by rw [hh]; exact List.length_filter_le _ _
          have HM := Lib.hid hm
          have HH := Lib.hid hh
          by_cases hlt2 : h < ln.length
          · obtain ⟨f, rfl⟩ : ∃ g, f = g + 1 := ⟨f - 1, by omega⟩
            have hls := least_spec HLt.out (filter_ex (n := n) (by omega))
            rw [deltas_more _ _ _ _ _ hlt2] at hacc
            obtain ⟨m, hmm⟩ : ∃ m, least ln n = m := ⟨_, rfl⟩
            rw [hmm] at hls hacc
            have hm1 := HLt.out m hls.1
            have hm2 := hls.2.1
            have HSame : Hid ((ln.filter (· < n)).length = (ln.filter (· < m)).length) := congrArg List.length (filt_same hls.2.1 hls.2.2)
            have HCnt : Hid (1 ≤ ln.count m) := List.count_pos_iff.2 hls.1
            have HLe := Lib.hid hmm
            clear hmm hls hm hh
            obtain ⟨P, hP⟩ : ∃ P, (m - n) * (h + 1) = P := ⟨_, rfl⟩
            have hPi : ((m : Int) - (n : Int)) * ((h : Int) + 1) = (P : Int) := by
              rw [← hP, Int.natCast_mul]; congr 1; omega
            have hPb : P ≤ (m - n) * 251 := by rw [← hP]; exact Nat.mul_le_mul_left _ (by omega)
            rw [hP] at hacc
            have HAcc := Lib.hid hacc
            clear hP hacc
            go_wp2_with (go_at_call 58; refine (least_any A ln cap n _ _ rfl (HR.out.below HM.out.2) HLt.out (by omega) hn).mono ?_; rintro e w' ⟨rfl, rfl⟩; rw [HLe.out])
            go_loopw [4, 8, 9, 10, 12] (fun v b c d i wx => ∃ x dl bias h : Nat, x ≤ ln.length ∧ i = .int .i64 x ∧ b = .int .i64 dl ∧ c = .int .i64 bias ∧ d = .int .i64 h ∧ PassRel w ln f m x v dl bias h wx) (fun _ _ _ _ i _ => ln.length - (intOf i).toNat)
            case atStart => exact ⟨0, dl + P, bias, h, Nat.zero_le _, rfl, by go_num, rfl, rfl, acc, HM.out, HAcc.out, by rw [← HSame.out]; simpa using HH.out, by omega, hbi, hal⟩
            case round =>
              obtain ⟨x, dl, bias, h2, hx, rfl, rfl, rfl, rfl, acc, hm, hacc, hh, hd2, hbi, hal⟩ := hrel
              have HM := Lib.hid hm
              have h260 : h2 ≤ ln.length := by
                have h1 := List.length_filter_le (· < m + 1) ln
                rw [filt_count] at h1
                have h3 : (ln.take x).count m ≤ ln.count m := (List.take_sublist x ln).count_le _
                omega
              by_cases hlt3 : x < ln.length
              · obtain ⟨b, off, rfl, _, hc⟩ := (HR.out.below hm.2) x _ (ints_at ln x hlt3)
                have hc0 := HLt.out _ (List.getElem_mem hlt3)
                have hct := count_take ln m x hlt3
                rw [List.drop_eq_getElem_cons hlt3] at hacc
                obtain ⟨y, hy⟩ : ∃ y, ln[x] = y := ⟨_, rfl⟩
                rw [hy] at hc hc0 hct hacc
                clear hy hm
                by_cases hc1 : y < m
                · rw [rest_lt _ _ _ _ _ _ _ hc1] at hacc
                  rw [if_neg (by omega)] at hct
                  have HAcc := Lib.hid hacc
                  have HCt := Lib.hid (And.intro hh hct)
                  clear hacc hct hh
                  have hne : ((y : Int) == (m : Int)) = false := beq_eq_false_iff_ne.2 (by omega)
                  go_wp2
                  go_roundw
                  case rel => exact ⟨x + 1, dl + 1, bias, h2, by omega, by go_num, by go_num, rfl, rfl, acc, HM.out, HAcc.out, by rw [HCt.out.2]; exact HCt.out.1, by omega, hbi, hal⟩
                  case measure => simp [intOf]; omega
                · by_cases hc2 : y = m
                  · subst hc2
                    rw [rest_eq] at hacc
                    rw [if_pos rfl] at hct
                    have HAcc := Lib.hid hacc
                    have HCt := Lib.hid (And.intro hh hct)
                    have hne : ((y : Int) == (y : Int)) = true := by simp
                    clear hacc hct hh
                    have had := adapt_le dl (h2 + 1) (h2 == nb)
                    have htl := tellK_length bias dl 36
                    have HAd := Lib.hid had
                    have HTl := Lib.hid htl
                    clear had htl
                    go_wp2_with (first
                      | (go_at_call 59; refine (tell_any dl bias _ _ _ rfl rfl (by omega) (by omega)).mono ?_; rintro e w3 ⟨v3, rfl, hm3⟩; have HM3 := Lib.hid hm3; have HMc := Lib.hid (HM.out.carry hm3.2); clear hm3)
                      | (go_at_call 60; refine (adapt_any dl (h2 + 1) _ _ _ _ rfl (by omega) (by omega) (by omega) (by omega)).mono ?_; rintro e w' ⟨rfl, rfl⟩)
                      | (at_builtin
                         refine append_bytes rfl (.tmp 87) (.tmp 90) rfl _ v3 acc (tellK dl bias 36) rfl rfl HMc.out HM3.out (tellK_ne _ _ _) ?ha ?_
                         case ha => have := HTl.out; omega
                         intro v4 w4 hm4
                         have HM4 := Lib.hid hm4
                         clear hm4))
                    go_roundw
                    case rel =>
                      refine ⟨x + 1, 0, adapt dl (h2 + 1) (h2 == nb), h2 + 1, by omega, by go_num, rfl, by rw [beq_cast], by go_num, acc ++ tellK dl bias 36, HM4.out, ?_, ?_, by omega, ?_, ?_⟩
                      · rw [List.append_assoc, ← HNb.out]; exact HAcc.out
                      · have h1 := HCt.out.1
                        have h2 := HCt.out.2
                        omega
                      · have := HAd.out
                        omega
                      · have := HTl.out
                        rw [List.length_append]
                        omega
                    case measure => simp [intOf]; omega
                  · rw [rest_gt _ _ _ _ _ _ _ (by omega)] at hacc
                    rw [if_neg hc2] at hct
                    have HAcc := Lib.hid hacc
                    have HCt := Lib.hid (And.intro hh hct)
                    clear hacc hct hh
                    have hne : ((y : Int) == (m : Int)) = false := beq_eq_false_iff_ne.2 (by omega)
                    go_wp2
                    go_roundw
                    case rel => exact ⟨x + 1, dl, bias, h2, by omega, by go_num, by go_num, rfl, rfl, acc, HM.out, HAcc.out, by rw [HCt.out.2]; exact HCt.out.1, by omega, hbi, hal⟩
                    case measure => simp [intOf]; omega
              · have hdn : ln.drop x = [] := List.drop_eq_nil_of_le (by omega)
                have htk : ln.take x = ln := List.take_of_length_le (by omega)
                rw [hdn, rest_nil] at hacc
                rw [htk] at hh
                have HAcc := Lib.hid hacc
                have HH2 := Lib.hid hh
                have hgrow : h < h2 := by
                  have h1 := HH.out
                  have h2 := HSame.out
                  have h3 := HCnt.out
                  omega
                have hfc := filt_count ln m
                have HFc := Lib.hid hfc
                clear hdn htk hacc hh hfc hm
                go_wp2
                go_roundw
                case rel => exact ⟨m + 1, dl + 1, bias, h2, by go_num, by go_num, rfl, rfl, f, acc, HM.out, HAcc.out, by rw [HFc.out]; exact HH2.out, by omega, by omega, by omega, hbi, hal⟩
                case measure => simp [intOf]; omega
          · rw [deltas_done _ _ _ _ _ hlt2] at hacc
            have HAcc : Hid (acc = penc ln) := by
              show acc = penc ln
              rw [← hacc]; simp [tells]
            have hcv := convert_bytes hm
            clear hacc hm hh
            go_wp2
            go_ret2
            exact ⟨by rw [HAcc.out]; rfl, HM.out.2⟩
      · have ha1 : (basicOf ln).map UInt8.ofNat ++ [45] = a0 := by rw [← ha0, if_neg hz]
        have HA1 := Lib.hid ha1
        have hz1 : (0 : Int) < (nb : Int) := by omega
        have hbsl : ((basicOf ln).map UInt8.ofNat).length = nb := by rw [List.length_map]; exact HNb.out
        have HBsl := Lib.hid hbsl
        clear hz ha0 ha1 hbsl
        go_wp2_with (at_builtin
                     refine wpList_append_own _ rfl (.tmp 45) (.tmp 46) 49 rfl w.heap.size 5 i0 _ 1 1 Tryz.underlying49 HI.out.1 HI.out.2.1 HI.out.2.2.1 HI.out.2.2.2 rfl (by decide) _ _ _ rfl (HM.out.1.alloc _) ⟨wr.heap.size, 0, none⟩ 1 1 [.int .u8 45] rfl rfl (cell_one_new _ _ _) (by simp [Value.oneCell']) ?ha ?hb ?hc ?_
                     case ha => rw [HBsl.out]; simp only [maxLen]; omega
                     case hb => rw [HBsl.out]; omega
                     case hc => have := HM.out.2.size; simp; omega
                     intro v' w2 hown' hgrow _)
        have HM0 : Hid (MadeB w w2 v' a0) := by
          show MadeB _ _ _ _
          rw [← HA1.out]
          exact HM.out.push (t := [45]) hown' hgrow
        clear hown' hgrow
        go_loopw [4, 7, 8, 9, 10] (fun v a b c d wx => ∃ n dl bias h : Nat, a = .int .i64 n ∧ b = .int .i64 dl ∧ c = .int .i64 bias ∧ d = .int .i64 h ∧ EncRel w ln v n dl bias h wx) (fun _ _ _ _ d _ => ln.length - (intOf d).toNat)
        case atStart => exact ⟨128, 0, 72, nb, rfl, rfl, rfl, by go_num, ln.length, a0, HM0.out, HPe.out, HNb.out.symm, by omega, by omega, by omega, by omega, HA0.out⟩
        case round =>
          obtain ⟨n, dl, bias, h, rfl, rfl, rfl, rfl, f, acc, hm, hacc, hh, hf, hn, hd, hbi, hal⟩ := hrel
          have h60 : h ≤ ln.length := by rw [hh]; exact List.length_filter_le _ _
          have HM := Lib.hid hm
          have HH := Lib.hid hh
          by_cases hlt2 : h < ln.length
          · obtain ⟨f, rfl⟩ : ∃ g, f = g + 1 := ⟨f - 1, by omega⟩
            have hls := least_spec HLt.out (filter_ex (n := n) (by omega))
            rw [deltas_more _ _ _ _ _ hlt2] at hacc
            obtain ⟨m, hmm⟩ : ∃ m, least ln n = m := ⟨_, rfl⟩
            rw [hmm] at hls hacc
            have hm1 := HLt.out m hls.1
            have hm2 := hls.2.1
            have HSame : Hid ((ln.filter (· < n)).length = (ln.filter (· < m)).length) := congrArg List.length (filt_same hls.2.1 hls.2.2)
            have HCnt : Hid (1 ≤ ln.count m) := List.count_pos_iff.2 hls.1
            have HLe := Lib.hid hmm
            clear hmm hls hm hh
            obtain ⟨P, hP⟩ : ∃ P, (m - n) * (h + 1) = P := ⟨_, rfl⟩
            have hPi : ((m : Int) - (n : Int)) * ((h : Int) + 1) = (P : Int) := by
              rw [← hP, Int.natCast_mul]; congr 1; omega
            have hPb : P ≤ (m - n) * 251 := by rw [← hP]; exact Nat.mul_le_mul_left _ (by omega)
            rw [hP] at hacc
            have HAcc := Lib.hid hacc
            clear hP hacc
            go_wp2_with (go_at_call 58; refine (least_any A ln cap n _ _ rfl (HR.out.below HM.out.2) HLt.out (by omega) hn).mono ?_; rintro e w' ⟨rfl, rfl⟩; rw [HLe.out])
            go_loopw [4, 8, 9, 10, 12] (fun v b c d i wx => ∃ x dl bias h : Nat, x ≤ ln.length ∧ i = .int .i64 x ∧ b = .int .i64 dl ∧ c = .int .i64 bias ∧ d = .int .i64 h ∧ PassRel w ln f m x v dl bias h wx) (fun _ _ _ _ i _ => ln.length - (intOf i).toNat)
            case atStart => exact ⟨0, dl + P, bias, h, Nat.zero_le _, rfl, by go_num, rfl, rfl, acc, HM.out, HAcc.out, by rw [← HSame.out]; simpa using HH.out, by omega, hbi, hal⟩
            case round =>
              obtain ⟨x, dl, bias, h2, hx, rfl, rfl, rfl, rfl, acc, hm, hacc, hh, hd2, hbi, hal⟩ := hrel
              have HM := Lib.hid hm
              have h260 : h2 ≤ ln.length := by
                have h1 := List.length_filter_le (· < m + 1) ln
                rw [filt_count] at h1
                have h3 : (ln.take x).count m ≤ ln.count m := (List.take_sublist x ln).count_le _
                omega
              by_cases hlt3 : x < ln.length
              · obtain ⟨b, off, rfl, _, hc⟩ := (HR.out.below hm.2) x _ (ints_at ln x hlt3)
                have hc0 := HLt.out _ (List.getElem_mem hlt3)
                have hct := count_take ln m x hlt3
                rw [List.drop_eq_getElem_cons hlt3] at hacc
                obtain ⟨y, hy⟩ : ∃ y, ln[x] = y := ⟨_, rfl⟩
                rw [hy] at hc hc0 hct hacc
                clear hy hm
                by_cases hc1 : y < m
                · rw [rest_lt _ _ _ _ _ _ _ hc1] at hacc
                  rw [if_neg (by omega)] at hct
                  have HAcc := Lib.hid hacc
                  have HCt := Lib.hid (And.intro hh hct)
                  clear hacc hct hh
                  have hne : ((y : Int) == (m : Int)) = false := beq_eq_false_iff_ne.2 (by omega)
                  go_wp2
                  go_roundw
                  case rel => exact ⟨x + 1, dl + 1, bias, h2, by omega, by go_num, by go_num, rfl, rfl, acc, HM.out, HAcc.out, by rw [HCt.out.2]; exact HCt.out.1, by omega, hbi, hal⟩
                  case measure => simp [intOf]; omega
                · by_cases hc2 : y = m
                  · subst hc2
                    rw [rest_eq] at hacc
                    rw [if_pos rfl] at hct
                    have HAcc := Lib.hid hacc
                    have HCt := Lib.hid (And.intro hh hct)
                    have hne : ((y : Int) == (y : Int)) = true := by simp
                    clear hacc hct hh
                    have had := adapt_le dl (h2 + 1) (h2 == nb)
                    have htl := tellK_length bias dl 36
                    have HAd := Lib.hid had
                    have HTl := Lib.hid htl
                    clear had htl
                    go_wp2_with (first
                      | (go_at_call 59; refine (tell_any dl bias _ _ _ rfl rfl (by omega) (by omega)).mono ?_; rintro e w3 ⟨v3, rfl, hm3⟩; have HM3 := Lib.hid hm3; have HMc := Lib.hid (HM.out.carry hm3.2); clear hm3)
                      | (go_at_call 60; refine (adapt_any dl (h2 + 1) _ _ _ _ rfl (by omega) (by omega) (by omega) (by omega)).mono ?_; rintro e w' ⟨rfl, rfl⟩)
                      | (at_builtin
                         refine append_bytes rfl (.tmp 87) (.tmp 90) rfl _ v3 acc (tellK dl bias 36) rfl rfl HMc.out HM3.out (tellK_ne _ _ _) ?ha ?_
                         case ha => have := HTl.out; omega
                         intro v4 w4 hm4
                         have HM4 := Lib.hid hm4
                         clear hm4))
                    go_roundw
                    case rel =>
                      refine ⟨x + 1, 0, adapt dl (h2 + 1) (h2 == nb), h2 + 1, by omega, by go_num, rfl, by rw [beq_cast], by go_num, acc ++ tellK dl bias 36, HM4.out, ?_, ?_, by omega, ?_, ?_⟩
                      · rw [List.append_assoc, ← HNb.out]; exact HAcc.out
                      · have h1 := HCt.out.1
                        have h2 := HCt.out.2
                        omega
                      · have := HAd.out
                        omega
                      · have := HTl.out
                        rw [List.length_append]
                        omega
                    case measure => simp [intOf]; omega
                  · rw [rest_gt _ _ _ _ _ _ _ (by omega)] at hacc
                    rw [if_neg hc2] at hct
                    have HAcc := Lib.hid hacc
                    have HCt := Lib.hid (And.intro hh hct)
                    clear hacc hct hh
                    have hne : ((y : Int) == (m : Int)) = false := beq_eq_false_iff_ne.2 (by omega)
                    go_wp2
                    go_roundw
                    case rel => exact ⟨x + 1, dl, bias, h2, by omega, by go_num, by go_num, rfl, rfl, acc, HM.out, HAcc.out, by rw [HCt.out.2]; exact HCt.out.1, by omega, hbi, hal⟩
                    case measure => simp [intOf]; omega
              · have hdn : ln.drop x = [] := List.drop_eq_nil_of_le (by omega)
                have htk : ln.take x = ln := List.take_of_length_le (by omega)
                rw [hdn, rest_nil] at hacc
                rw [htk] at hh
                have HAcc := Lib.hid hacc
                have HH2 := Lib.hid hh
                have hgrow : h < h2 := by
                  have h1 := HH.out
                  have h2 := HSame.out
                  have h3 := HCnt.out
                  omega
                have hfc := filt_count ln m
                have HFc := Lib.hid hfc
                clear hdn htk hacc hh hfc hm
                go_wp2
                go_roundw
                case rel => exact ⟨m + 1, dl + 1, bias, h2, by go_num, by go_num, rfl, rfl, f, acc, HM.out, HAcc.out, by rw [HFc.out]; exact HH2.out, by omega, by omega, by omega, hbi, hal⟩
                case measure => simp [intOf]; omega
          · rw [deltas_done _ _ _ _ _ hlt2] at hacc
            have HAcc : Hid (acc = penc ln) := by
              show acc = penc ln
              rw [← hacc]; simp [tells]
            have hcv := convert_bytes hm
            clear hacc hm hh
            go_wp2
            go_ret2
            exact ⟨by rw [HAcc.out]; rfl, HM.out.2⟩
end Go.Proofs.YtfaieldafoeaiaaGreatDoor

/-
  Plain mathematics of UTF-8: the scalar at the begin of some bytes, the scalars of bytes, the bytes of scalars; there and back.
-/
import Derived.Laws.Cover4
namespace Go.Proofs.YtcndcdkcbkjbaaaDoor

/-- How many bytes a scalar has that begins with a byte; 0: none does. -/
def lensOf (a : Int) : Nat := if a < 128 then 1 else if a < 194 then 0 else if a ≤ 223 then 2 else if a ≤ 239 then 3 else if a ≤ 244 then 4 else 0
/-- The bounds of the byte at a place behind a first one. -/
def lo (a : Int) (k : Nat) : Int := if k = 1 ∧ a = 224 then 160 else if k = 1 ∧ a = 240 then 144 else 128
def hi (a : Int) (k : Nat) : Int := if k = 1 ∧ a = 237 then 159 else if k = 1 ∧ a = 244 then 143 else 191
def fol (a c : Int) (k : Nat) : Bool := decide (lo a k ≤ c) && decide (c ≤ hi a k)
/-- How far a begin of a scalar's bytes goes on. -/
def ext (a : Int) (n k : Nat) : List UInt8 → Nat
  | [] => k
  | c :: t => if k < n ∧ fol a c.toNat k = true then ext a n (k + 1) t else k
def headBits (a : Int) (n : Nat) : Int := if n ≤ 1 then a else if n = 2 then a - 192 else if n = 3 then a - 224 else a - 240
def acc (v : Int) (t : List UInt8) : Int := t.foldl (fun v c => 64 * v + ((c.toNat : Int) - 128)) v
/-- The scalar at the begin of bytes, how many bytes it takes, whether they are a scalar's. -/
def one : List UInt8 → Int × Nat × Bool
  | [] => (65533, 1, false)
  | a :: t => if ext a.toNat (lensOf a.toNat) 1 t = lensOf a.toNat then (acc (headBits a.toNat (lensOf a.toNat)) (t.take (lensOf a.toNat - 1)), lensOf a.toNat, true) else (65533, ext a.toNat (lensOf a.toNat) 1 t, false)

theorem ext_ge (a : Int) (n : Nat) : ∀ (t : List UInt8) (k : Nat), k ≤ ext a n k t
  | [], k => Nat.le_refl _
  | c :: t, k => by
    unfold ext
    split
    · have := ext_ge a n t (k + 1); omega
    · exact Nat.le_refl _
theorem ext_le (a : Int) (n : Nat) : ∀ (t : List UInt8) (k : Nat), ext a n k t ≤ k + t.length
  | [], k => Nat.le_refl _
  | c :: t, k => by
    unfold ext
    split
    · have := ext_le a n t (k + 1); simp only [List.length_cons]; omega
    · omega
theorem ext_le_n (a : Int) (n : Nat) : ∀ (t : List UInt8) (k : Nat), ext a n k t ≤ max k n
  | [], k => by simp only [ext]; omega
  | c :: t, k => by
    unfold ext
    split
    · have := ext_le_n a n t (k + 1); omega
    · omega
theorem ext_full (a : Int) (n k : Nat) (t : List UInt8) (h : n ≤ k) : ext a n k t = k := by
  cases t with
  | nil => rfl
  | cons c t => unfold ext; rw [if_neg (by omega)]
theorem ext_nil (a : Int) (n k : Nat) : ext a n k [] = k := rfl
theorem ext_bad (a : Int) (n k : Nat) (c : UInt8) (t : List UInt8) (h : fol a c.toNat k = false) : ext a n k (c :: t) = k := by
  unfold ext; rw [if_neg (by simp [h])]
theorem ext_good (a : Int) (n k : Nat) (c : UInt8) (t : List UInt8) (hk : k < n) (h : fol a c.toNat k = true) : ext a n k (c :: t) = ext a n (k + 1) t := by
  conv => lhs; unfold ext
  rw [if_pos ⟨hk, h⟩]

theorem lensOf_le (a : Int) : lensOf a ≤ 4 := by
  unfold lensOf
  repeat' split
  all_goals omega

theorem one_size (l : List UInt8) (h : l ≠ []) : 1 ≤ (one l).2.1 ∧ (one l).2.1 ≤ l.length ∧ (one l).2.1 ≤ 4 := by
  cases l with
  | nil => exact absurd rfl h
  | cons a t =>
    have h1 := ext_ge a.toNat (lensOf a.toNat) t 1
    have h2 := ext_le a.toNat (lensOf a.toNat) t 1
    have h3 := ext_le_n a.toNat (lensOf a.toNat) t 1
    have h4 := lensOf_le a.toNat
    unfold one
    simp only [List.length_cons]
    split
    · simp only; omega
    · simp only; omega

/-- The scalars of bytes. -/
def dec (l : List UInt8) : List Int :=
  if _h : l = [] then [] else (one l).1 :: dec (l.drop (one l).2.1)
termination_by l.length
decreasing_by have := one_size l ‹_›; simp only [List.length_drop]; omega
/-- Are they some scalars' bytes? -/
def vld (l : List UInt8) : Bool :=
  if _h : l = [] then true else (one l).2.2 && vld (l.drop (one l).2.1)
termination_by l.length
decreasing_by have := one_size l ‹_›; simp only [List.length_drop]; omega

theorem dec_nil : dec [] = [] := by rw [dec]; simp
theorem vld_nil : vld [] = true := by rw [vld]; simp
theorem dec_step {l : List UInt8} (h : l ≠ []) : dec l = (one l).1 :: dec (l.drop (one l).2.1) := by
  conv => lhs; rw [dec]
  rw [dif_neg h]
theorem vld_step {l : List UInt8} (h : l ≠ []) : vld l = ((one l).2.2 && vld (l.drop (one l).2.1)) := by
  conv => lhs; rw [vld]
  rw [dif_neg h]

/-- The bytes of a number. -/
def enc1 (c : Int) : List UInt8 := (Utf8.encode c).data.toList
def enc (l : List Int) : List UInt8 := l.flatMap enc1
def scal (c : Int) : Bool := decide (0 ≤ c) && decide (c ≤ 1114111) && (decide (c < 55296) || decide (57343 < c))
def fix (c : Int) : Int := if scal c then c else 65533

theorem scal_iff (c : Int) : scal c = true ↔ 0 ≤ c ∧ c ≤ 1114111 ∧ (c < 55296 ∨ 57343 < c) := by simp [scal, and_assoc]
theorem scal_fix (c : Int) : scal (fix c) = true := by
  unfold fix
  split
  · assumption
  · rfl

theorem valid_scal (c : Int) : Utf8.valid c = scal c := by
  rw [Bool.eq_iff_iff, scal_iff]; simp [Utf8.valid]; omega
theorem enc1_fix (c : Int) : enc1 (fix c) = enc1 c := by
  unfold fix
  split
  · rfl
  · rename_i h
    have h' : Utf8.valid c = false := by rw [valid_scal]; simpa using h
    have h2 : Utf8.valid 65533 = true := rfl
    unfold enc1 Utf8.encode
    simp only [h', h2, Utf8.runeError]
    rfl
theorem enc1_bad (c : Int) (h : scal c = false) : enc1 c = [239, 191, 189] := by
  rw [← enc1_fix, fix, if_neg (by simp [h])]
  rfl
theorem enc1_one (c : Int) (h0 : 0 ≤ c) (h1 : c < 128) : enc1 c = [UInt8.ofNat c.toNat] := by
  have h' : Utf8.valid c = true := by rw [valid_scal, scal_iff]; omega
  unfold enc1 Utf8.encode
  simp only [h', if_true]
  rw [if_pos (by omega)]
theorem enc1_two (c : Int) (h0 : 128 ≤ c) (h1 : c < 2048) : enc1 c = [UInt8.ofNat (192 + c.toNat / 64), UInt8.ofNat (128 + c.toNat % 64)] := by
  have h' : Utf8.valid c = true := by rw [valid_scal, scal_iff]; omega
  unfold enc1 Utf8.encode
  simp only [h', if_true]
  rw [if_neg (by omega), if_pos (by omega)]
theorem enc1_three (c : Int) (h0 : 2048 ≤ c) (h1 : c < 65536) (h2 : c < 55296 ∨ 57343 < c) : enc1 c = [UInt8.ofNat (224 + c.toNat / 4096), UInt8.ofNat (128 + c.toNat / 64 % 64), UInt8.ofNat (128 + c.toNat % 64)] := by
  have h' : Utf8.valid c = true := by rw [valid_scal, scal_iff]; omega
  unfold enc1 Utf8.encode
  simp only [h', if_true]
  rw [if_neg (by omega), if_neg (by omega), if_pos (by omega)]
theorem enc1_four (c : Int) (h0 : 65536 ≤ c) (h1 : c ≤ 1114111) : enc1 c = [UInt8.ofNat (240 + c.toNat / 262144), UInt8.ofNat (128 + c.toNat / 4096 % 64), UInt8.ofNat (128 + c.toNat / 64 % 64), UInt8.ofNat (128 + c.toNat % 64)] := by
  have h' : Utf8.valid c = true := by rw [valid_scal, scal_iff]; omega
  unfold enc1 Utf8.encode
  simp only [h', if_true]
  rw [if_neg (by omega), if_neg (by omega), if_neg (by omega)]

theorem ofNat_toNat (n : Nat) (h : n < 256) : ((UInt8.ofNat n).toNat : Int) = n := by
  simp only [UInt8.toNat_ofNat']
  omega

theorem fol_true {a c : Int} {k : Nat} (h1 : lo a k ≤ c) (h2 : c ≤ hi a k) : fol a c k = true := by simp [fol, h1, h2]
theorem fol_iff {a c : Int} {k : Nat} : fol a c k = true ↔ lo a k ≤ c ∧ c ≤ hi a k := by simp [fol]
theorem lo_ge (a : Int) (k : Nat) : 128 ≤ lo a k := by
  unfold lo
  repeat' split
  all_goals omega
theorem hi_le (a : Int) (k : Nat) : hi a k ≤ 191 := by
  unfold hi
  repeat' split
  all_goals omega
theorem lo_two (a : Int) (k : Nat) (h : 2 ≤ k) : lo a k = 128 := by unfold lo; rw [if_neg (by omega), if_neg (by omega)]
theorem hi_two (a : Int) (k : Nat) (h : 2 ≤ k) : hi a k = 191 := by unfold hi; rw [if_neg (by omega), if_neg (by omega)]

theorem lens_1 {a : Int} (h : a < 128) : lensOf a = 1 := by unfold lensOf; rw [if_pos h]
theorem lens_2 {a : Int} (h0 : 194 ≤ a) (h : a ≤ 223) : lensOf a = 2 := by unfold lensOf; rw [if_neg (by omega), if_neg (by omega), if_pos h]
theorem lens_3 {a : Int} (h0 : 224 ≤ a) (h : a ≤ 239) : lensOf a = 3 := by unfold lensOf; rw [if_neg (by omega), if_neg (by omega), if_neg (by omega), if_pos h]
theorem lens_4 {a : Int} (h0 : 240 ≤ a) (h : a ≤ 244) : lensOf a = 4 := by unfold lensOf; rw [if_neg (by omega), if_neg (by omega), if_neg (by omega), if_neg (by omega), if_pos h]
theorem lens_0 {a : Int} (h0 : 128 ≤ a) (h : a < 194 ∨ 244 < a) : lensOf a = 0 := by
  unfold lensOf
  rw [if_neg (by omega)]
  rcases h with h | h
  · rw [if_pos h]
  · rw [if_neg (by omega), if_neg (by omega), if_neg (by omega), if_neg (by omega)]

/-- A scalar's bytes, whatever follows, are that scalar. -/
theorem one_enc_scal (c : Int) (hc : scal c = true) (t : List UInt8) : one (enc1 c ++ t) = (c, (enc1 c).length, true) := by
  rw [scal_iff] at hc
  obtain ⟨h0, h1, h2⟩ := hc
  by_cases e1 : c < 128
  · rw [enc1_one c h0 e1]
    have ha := ofNat_toNat c.toNat (by omega)
    have hl : lensOf ((UInt8.ofNat c.toNat).toNat) = 1 := by rw [ha]; exact lens_1 (by omega)
    simp only [List.cons_append, List.nil_append, one, hl]
    rw [if_pos (ext_full _ _ _ _ (by omega))]
    simp [acc, headBits]; omega
  by_cases e2 : c < 2048
  · rw [enc1_two c (by omega) e2]
    have ha := ofNat_toNat (192 + c.toNat / 64) (by omega)
    have hb := ofNat_toNat (128 + c.toNat % 64) (by omega)
    have hl : lensOf ((UInt8.ofNat (192 + c.toNat / 64)).toNat) = 2 := by rw [ha]; exact lens_2 (by omega) (by omega)
    have hf : fol ((UInt8.ofNat (192 + c.toNat / 64)).toNat) ((UInt8.ofNat (128 + c.toNat % 64)).toNat) 1 = true := by
      rw [ha, hb, fol_iff]; unfold lo hi
      rw [if_neg (by omega), if_neg (by omega), if_neg (by omega), if_neg (by omega)]; omega
    simp only [List.cons_append, List.nil_append, one, hl]
    rw [ext_good _ _ _ _ _ (by omega) hf, if_pos (ext_full _ _ _ _ (by omega))]
    simp only [headBits, acc, List.take, List.foldl, ha, hb, List.length_cons, List.length_nil]
    refine Prod.ext ?_ rfl
    simp only [Nat.reduceLeDiff, if_false, if_true]
    omega
  by_cases e3 : c < 65536
  · rw [enc1_three c (by omega) e3 h2]
    have ha := ofNat_toNat (224 + c.toNat / 4096) (by omega)
    have hb := ofNat_toNat (128 + c.toNat / 64 % 64) (by omega)
    have hd := ofNat_toNat (128 + c.toNat % 64) (by omega)
    have hl : lensOf ((UInt8.ofNat (224 + c.toNat / 4096)).toNat) = 3 := by rw [ha]; exact lens_3 (by omega) (by omega)
    have hf : fol ((UInt8.ofNat (224 + c.toNat / 4096)).toNat) ((UInt8.ofNat (128 + c.toNat / 64 % 64)).toNat) 1 = true := by
      rw [ha, hb, fol_iff]; unfold lo hi
      repeat' split
      all_goals omega
    have hg : fol ((UInt8.ofNat (224 + c.toNat / 4096)).toNat) ((UInt8.ofNat (128 + c.toNat % 64)).toNat) 2 = true := by
      rw [ha, hd, fol_iff, lo_two _ _ (by omega), hi_two _ _ (by omega)]; omega
    simp only [List.cons_append, List.nil_append, one, hl]
    rw [ext_good _ _ _ _ _ (by omega) hf, ext_good _ _ _ _ _ (by omega) hg, if_pos (ext_full _ _ _ _ (by omega))]
    simp only [headBits, acc, List.take, List.foldl, ha, hb, hd, List.length_cons, List.length_nil]
    refine Prod.ext ?_ rfl
    simp only [Nat.reduceLeDiff, Nat.reduceEqDiff, if_false, if_true]
    omega
  · rw [enc1_four c (by omega) h1]
    have ha := ofNat_toNat (240 + c.toNat / 262144) (by omega)
    have hb := ofNat_toNat (128 + c.toNat / 4096 % 64) (by omega)
    have hd := ofNat_toNat (128 + c.toNat / 64 % 64) (by omega)
    have he := ofNat_toNat (128 + c.toNat % 64) (by omega)
    have hl : lensOf ((UInt8.ofNat (240 + c.toNat / 262144)).toNat) = 4 := by rw [ha]; exact lens_4 (by omega) (by omega)
    have hf : fol ((UInt8.ofNat (240 + c.toNat / 262144)).toNat) ((UInt8.ofNat (128 + c.toNat / 4096 % 64)).toNat) 1 = true := by
      rw [ha, hb, fol_iff]; unfold lo hi
      repeat' split
      all_goals omega
    have hg : fol ((UInt8.ofNat (240 + c.toNat / 262144)).toNat) ((UInt8.ofNat (128 + c.toNat / 64 % 64)).toNat) 2 = true := by
      rw [ha, hd, fol_iff, lo_two _ _ (by omega), hi_two _ _ (by omega)]; omega
    have hh : fol ((UInt8.ofNat (240 + c.toNat / 262144)).toNat) ((UInt8.ofNat (128 + c.toNat % 64)).toNat) 3 = true := by
      rw [ha, he, fol_iff, lo_two _ _ (by omega), hi_two _ _ (by omega)]; omega
    simp only [List.cons_append, List.nil_append, one, hl]
    rw [ext_good _ _ _ _ _ (by omega) hf, ext_good _ _ _ _ _ (by omega) hg, ext_good _ _ _ _ _ (by omega) hh, if_pos (ext_full _ _ _ _ (by omega))]
    simp only [headBits, acc, List.take, List.foldl, ha, hb, hd, he, List.length_cons, List.length_nil]
    refine Prod.ext ?_ rfl
    simp only [Nat.reduceLeDiff, Nat.reduceEqDiff, if_false]
    omega
theorem one_enc (c : Int) (t : List UInt8) : one (enc1 c ++ t) = (fix c, (enc1 c).length, true) := by
  have h := one_enc_scal (fix c) (scal_fix c) t
  rwa [enc1_fix] at h
theorem enc1_pos (c : Int) : 1 ≤ (enc1 c).length ∧ (enc1 c).length ≤ 4 := by
  have h := one_size (enc1 c ++ [0]) (by simp)
  rw [one_enc] at h
  exact ⟨h.1, h.2.2⟩
theorem enc1_ne (c : Int) (t : List UInt8) : enc1 c ++ t ≠ [] := by
  have h := (enc1_pos c).1
  intro e
  have : (enc1 c ++ t).length = 0 := by rw [e]; rfl
  rw [List.length_append] at this
  omega

/-- Bytes that are a scalar's are that scalar's bytes. -/
theorem u8_ext {a : UInt8} {n : Nat} (h : (a.toNat : Int) = n) (hn : n < 256) : a = UInt8.ofNat n := by
  apply UInt8.toNat_inj.1
  simp only [UInt8.toNat_ofNat']
  omega
theorem ext_cons {a : Int} {n k : Nat} {t : List UInt8} (hk : k < n) (h : ext a n k t = n) : ∃ c t', t = c :: t' ∧ fol a c.toNat k = true ∧ ext a n (k + 1) t' = n := by
  cases t with
  | nil => simp only [ext] at h; omega
  | cons c t' =>
    by_cases hf : fol a c.toNat k = true
    · exact ⟨c, t', rfl, hf, by rwa [ext_good _ _ _ _ _ hk hf] at h⟩
    · rw [ext_bad _ _ _ _ _ (by simpa using hf)] at h; omega

theorem one_back {l : List UInt8} (h : (one l).2.2 = true) : scal (one l).1 = true ∧ l = enc1 (one l).1 ++ l.drop (one l).2.1 := by
  cases l with
  | nil => simp [one] at h
  | cons a t =>
    have hlt : a.toNat < 256 := a.toNat_lt
    by_cases hw : ext a.toNat (lensOf a.toNat) 1 t = lensOf a.toNat
    · have e : one (a :: t) = (acc (headBits a.toNat (lensOf a.toNat)) (t.take (lensOf a.toNat - 1)), lensOf a.toNat, true) := by simp only [one]; rw [if_pos hw]
      rw [e]
      clear e h
      by_cases c1 : (a.toNat : Int) < 128
      · rw [lens_1 c1]
        simp only [headBits, acc, Nat.sub_self, List.take_zero, List.foldl_nil, Nat.le_refl, if_true]
        refine ⟨by rw [scal_iff]; omega, ?_⟩
        rw [enc1_one _ (by omega) c1]
        simp
      by_cases c0 : (a.toNat : Int) < 194 ∨ 244 < (a.toNat : Int)
      · have hl := lens_0 (by omega) c0
        rw [hl] at hw
        have := ext_ge a.toNat 0 t 1
        omega
      by_cases c2 : (a.toNat : Int) ≤ 223
      · have hl := lens_2 (by omega) c2
        rw [hl] at hw ⊢
        obtain ⟨b, t', rfl, hf, -⟩ := ext_cons (by omega) hw
        rw [fol_iff] at hf
        have h1 := lo_ge a.toNat 1
        have h2 := hi_le a.toNat 1
        simp only [headBits, acc, List.take, List.foldl, Nat.reduceLeDiff, if_false, if_true, List.drop]
        refine ⟨by rw [scal_iff]; omega, ?_⟩
        rw [enc1_two _ (by omega) (by omega)]
        simp only [List.cons_append, List.nil_append, List.cons.injEq, and_true]
        exact ⟨u8_ext (by omega) (by omega), u8_ext (by omega) (by omega)⟩
      by_cases c3 : (a.toNat : Int) ≤ 239
      · have hl := lens_3 (by omega) c3
        rw [hl] at hw ⊢
        obtain ⟨b, t', rfl, hf, hw⟩ := ext_cons (by omega) hw
        obtain ⟨d, t', rfl, hg, -⟩ := ext_cons (by omega) hw
        rw [fol_iff] at hf hg
        rw [lo_two _ _ (by omega), hi_two _ _ (by omega)] at hg
        have h1 := lo_ge a.toNat 1
        have h2 := hi_le a.toNat 1
        have h3 : (a.toNat : Int) = 224 → lo a.toNat 1 = 160 := fun e => by unfold lo; rw [if_pos ⟨rfl, e⟩]
        have h4 : (a.toNat : Int) = 237 → hi a.toNat 1 = 159 := fun e => by unfold hi; rw [if_pos ⟨rfl, e⟩]
        simp only [headBits, acc, List.take, List.foldl, Nat.reduceLeDiff, Nat.reduceEqDiff, if_false, if_true, List.drop]
        refine ⟨by rw [scal_iff]; omega, ?_⟩
        rw [enc1_three _ (by omega) (by omega) (by omega)]
        simp only [List.cons_append, List.nil_append, List.cons.injEq, and_true]
        exact ⟨u8_ext (by omega) (by omega), u8_ext (by omega) (by omega), u8_ext (by omega) (by omega)⟩
      · have hl := lens_4 (a := a.toNat) (by omega) (by omega)
        rw [hl] at hw ⊢
        obtain ⟨b, t', rfl, hf, hw⟩ := ext_cons (by omega) hw
        obtain ⟨d, t', rfl, hg, hw⟩ := ext_cons (by omega) hw
        obtain ⟨e, t', rfl, hh, -⟩ := ext_cons (by omega) hw
        rw [fol_iff] at hf hg hh
        rw [lo_two _ _ (by omega), hi_two _ _ (by omega)] at hg hh
        have h1 := lo_ge a.toNat 1
        have h2 := hi_le a.toNat 1
        have h3 : (a.toNat : Int) = 240 → lo a.toNat 1 = 144 := fun e => by unfold lo; rw [if_neg (by omega), if_pos ⟨rfl, e⟩]
        have h4 : (a.toNat : Int) = 244 → hi a.toNat 1 = 143 := fun e => by unfold hi; rw [if_neg (by omega), if_pos ⟨rfl, e⟩]
        simp only [headBits, acc, List.take, List.foldl, Nat.reduceLeDiff, Nat.reduceEqDiff, if_false, List.drop]
        refine ⟨by rw [scal_iff]; omega, ?_⟩
        rw [enc1_four _ (by omega) (by omega)]
        simp only [List.cons_append, List.nil_append, List.cons.injEq, and_true]
        exact ⟨u8_ext (by omega) (by omega), u8_ext (by omega) (by omega), u8_ext (by omega) (by omega), u8_ext (by omega) (by omega)⟩
    · simp only [one] at h
      rw [if_neg hw] at h
      cases h
theorem one_bad {l : List UInt8} (h : (one l).2.2 = false) : (one l).1 = 65533 := by
  cases l with
  | nil => rfl
  | cons a t =>
    simp only [one] at h ⊢
    split at h
    · cases h
    · rename_i hw; rw [if_neg hw]
theorem one_scal (l : List UInt8) : scal (one l).1 = true := by
  cases h : (one l).2.2 with
  | true => exact (one_back h).1
  | false => rw [one_bad h]; rfl

theorem fix_scal {c : Int} (h : scal c = true) : fix c = c := by unfold fix; rw [if_pos h]

/-- Numbers, told by their bytes, ahead of any bytes. -/
theorem dec_enc (l : List Int) (t : List UInt8) : dec (enc l ++ t) = l.map fix ++ dec t := by
  induction l with
  | nil => rfl
  | cons c l ih =>
    have e : enc (c :: l) ++ t = enc1 c ++ (enc l ++ t) := by simp [enc]
    rw [e, dec_step (enc1_ne _ _), one_enc]
    simp only [List.drop_left, ih, List.map_cons, List.cons_append]
theorem vld_enc (l : List Int) (t : List UInt8) : vld (enc l ++ t) = vld t := by
  induction l with
  | nil => rfl
  | cons c l ih =>
    have e : enc (c :: l) ++ t = enc1 c ++ (enc l ++ t) := by simp [enc]
    rw [e, vld_step (enc1_ne _ _), one_enc]
    simp only [List.drop_left, ih, Bool.true_and]
theorem dec_enc0 (l : List Int) : dec (enc l) = l.map fix := by
  have h := dec_enc l []
  simpa [dec_nil] using h
theorem vld_enc0 (l : List Int) : vld (enc l) = true := by
  have h := vld_enc l []
  simpa [vld_nil] using h

theorem dec_scal (l : List UInt8) : ∀ c ∈ dec l, scal c = true := by
  by_cases h : l = []
  · subst h; rw [dec_nil]; intro c hc; simp at hc
  · have hs := one_size l h
    rw [dec_step h]
    intro c hc
    rcases List.mem_cons.1 hc with rfl | hc
    · exact one_scal l
    · exact dec_scal _ c hc
termination_by l.length
decreasing_by simp only [List.length_drop]; omega
theorem dec_fix (l : List UInt8) : (dec l).map fix = dec l := by
  conv => rhs; rw [← List.map_id (dec l)]
  exact List.map_congr_left fun c hc => fix_scal (dec_scal l c hc)
theorem dec_length (l : List UInt8) : (dec l).length ≤ l.length := by
  by_cases h : l = []
  · subst h; rw [dec_nil]; exact Nat.le_refl _
  · have hs := one_size l h
    rw [dec_step h]
    have := dec_length (l.drop (one l).2.1)
    simp only [List.length_cons, List.length_drop] at this ⊢
    omega
termination_by l.length
decreasing_by simp only [List.length_drop]; omega
theorem enc_dec {l : List UInt8} (hv : vld l = true) : enc (dec l) = l := by
  by_cases h : l = []
  · subst h; rw [dec_nil]; rfl
  · have hs := one_size l h
    rw [vld_step h, Bool.and_eq_true] at hv
    have hb := (one_back hv.1).2
    rw [dec_step h]
    have := enc_dec hv.2
    simp only [enc, List.flatMap_cons] at this ⊢
    rw [this]
    exact hb.symm
termination_by l.length
decreasing_by simp only [List.length_drop]; omega

/-- Bytes are valid just if they are what they are told as. -/
theorem vld_eq (l : List UInt8) : vld l = decide (enc (dec l) = l) := by
  cases h : vld l with
  | true => simp [enc_dec h]
  | false =>
    have : ¬ enc (dec l) = l := fun e => by rw [← e, vld_enc0] at h; cases h
    simp [this]
theorem dec_append {a : List UInt8} (h : vld a = true) (b : List UInt8) : dec (a ++ b) = dec a ++ dec b := by
  have e := enc_dec h
  conv => lhs; rw [← e]
  rw [dec_enc, dec_fix]
theorem vld_append {a : List UInt8} (h : vld a = true) (b : List UInt8) : vld (a ++ b) = vld b := by
  have e := enc_dec h
  conv => lhs; rw [← e]
  rw [vld_enc]
theorem enc_length (l : List Int) : (enc l).length ≤ 4 * l.length := by
  induction l with
  | nil => exact Nat.le_refl _
  | cons c l ih =>
    have := enc1_pos c
    simp only [enc, List.flatMap_cons, List.length_append, List.length_cons] at ih ⊢
    omega
end Go.Proofs.YtcndcdkcbkjbaaaDoor

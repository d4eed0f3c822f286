/-
  The document of layer 4 as plain functions over lists of numbers, and what follows of them: deltas there and back.
-/
import Derived.Laws.Cover4
namespace Go.Proofs.Ytmnpefpglpabmaa

/-- To adapt a delta. -/
def adaptLoop (d k : Nat) : Nat := if h : 455 < d then adaptLoop (d / 35) (k + 36) else k + 36 * d / (d + 38)
termination_by d
decreasing_by omega
def adapt (delta many : Nat) (once : Bool) : Nat :=
  adaptLoop ((if once then delta / 700 else delta / 2) + (if once then delta / 700 else delta / 2) / many) 0
/-- The threshold at k. -/
def thr (k bias : Nat) : Nat := if k ≤ bias then 1 else if bias + 26 ≤ k then 26 else k - bias
theorem thr_pos (k bias : Nat) : 1 ≤ thr k bias ∧ thr k bias ≤ 26 := by
  unfold thr
  split
  · omega
  · split <;> omega
/-- A number's digit, and a digit's number. -/
def dig (n : Nat) : UInt8 := if n < 26 then UInt8.ofNat (97 + n) else UInt8.ofNat (22 + n)
def dval (c : Int) : Int := if 97 ≤ c ∧ c ≤ 122 then c - 97 else if 65 ≤ c ∧ c ≤ 90 then c - 65 else if 48 ≤ c ∧ c ≤ 57 then c - 48 + 26 else -1
def lower (c : UInt8) : UInt8 := if 65 ≤ c.toNat ∧ c.toNat ≤ 90 then UInt8.ofNat (c.toNat + 32) else c
/-- To tell a number by digits. -/
def tellK (q bias k : Nat) : List UInt8 :=
  if h : q < thr k bias then [dig q] else dig (thr k bias + (q - thr k bias) % (36 - thr k bias)) :: tellK ((q - thr k bias) / (36 - thr k bias)) bias (k + 36)
termination_by q
decreasing_by
  have := thr_pos k bias
  have h1 : (q - thr k bias) / (36 - thr k bias) ≤ q - thr k bias := Nat.div_le_self _ _
  omega
/-- What digits tell: the number so far and the rest; nothing where a digit is wanting, is none, or the number grows too great. -/
def par : List UInt8 → Nat → Nat → Nat → Nat → Option (Nat × List UInt8)
  | [], _, _, _, _ => none
  | c :: s, bias, k, w, i =>
    if dval c.toNat < 0 then none
    else if 1099511627776 < i + (dval c.toNat).toNat * w then none
    else if (dval c.toNat).toNat < thr k bias then some (i + (dval c.toNat).toNat * w, s)
    else if 1099511627776 < w * (36 - thr k bias) then none
    else par s bias (k + 36) (w * (36 - thr k bias)) (i + (dval c.toNat).toNat * w)

theorem dig_val : ∀ n : Fin 36, dval (dig n.val).toNat = n.val ∧ (dig n.val).toNat < 128 ∧ dig n.val ≠ 45 := by decide +kernel
theorem dig_val' (n : Nat) (h : n < 36) : dval (dig n).toNat = n := (dig_val ⟨n, h⟩).1
theorem lower_dig : ∀ n : Fin 256, 0 ≤ dval (n.val : Int) → lower (UInt8.ofNat n.val) = dig (dval (n.val : Int)).toNat ∧ (dval (n.val : Int)).toNat < 36 ∧ n.val ≠ 45 := by decide +kernel
theorem lower_val (c : UInt8) (h : 0 ≤ dval c.toNat) : lower c = dig (dval c.toNat).toNat ∧ (dval c.toNat).toNat < 36 ∧ c.toNat ≠ 45 := by
  have := lower_dig ⟨c.toNat, c.toNat_lt⟩ h
  simpa using this

theorem tellK_small {q bias k : Nat} (h : q < thr k bias) : tellK q bias k = [dig q] := by rw [tellK, dif_pos h]
theorem tellK_more {q bias k : Nat} (h : ¬ q < thr k bias) : tellK q bias k = dig (thr k bias + (q - thr k bias) % (36 - thr k bias)) :: tellK ((q - thr k bias) / (36 - thr k bias)) bias (k + 36) := by
  rw [tellK, dif_neg h]

/-- A number that is told is read. -/
theorem par_tell (bias : Nat) (r : List UInt8) : ∀ (q k w i : Nat), i + q * w ≤ 1099511627776 → 35 * (q * w) ≤ 1099511627776 → par (tellK q bias k ++ r) bias k w i = some (i + q * w, r) := by
  intro q
  induction q using Nat.strongRecOn with
  | _ q ih =>
    intro k w i h1 h2
    have ht := thr_pos k bias
    by_cases h : q < thr k bias
    · rw [tellK_small h]
      show par (dig q :: r) bias k w i = _
      have hd := dig_val' q (by omega)
      unfold par
      rw [hd]
      simp only [Int.toNat_natCast]
      rw [if_neg (by omega), if_neg (by omega), if_pos h]
    · rw [tellK_more h]
      have hm : (q - thr k bias) % (36 - thr k bias) < 36 - thr k bias := Nat.mod_lt _ (by omega)
      have hdm : (36 - thr k bias) * ((q - thr k bias) / (36 - thr k bias)) + (q - thr k bias) % (36 - thr k bias) = q - thr k bias := Nat.div_add_mod _ _
      obtain ⟨d, hde⟩ : ∃ d, thr k bias + (q - thr k bias) % (36 - thr k bias) = d := ⟨_, rfl⟩
      obtain ⟨q', hqe⟩ : ∃ q', (q - thr k bias) / (36 - thr k bias) = q' := ⟨_, rfl⟩
      have hd := dig_val' d (by omega)
      rw [hqe] at hdm
      have hq : d + q' * (36 - thr k bias) = q := by
        have : (36 - thr k bias) * q' = q' * (36 - thr k bias) := Nat.mul_comm _ _
        omega
      have hqw : d * w + q' * (w * (36 - thr k bias)) = q * w := by
        rw [← hq, Nat.add_mul]
        congr 1
        rw [Nat.mul_assoc, Nat.mul_comm w]
      have hq1 : 1 ≤ q := by omega
      have hw : w ≤ q * w := Nat.le_mul_of_pos_left _ hq1
      have hw2 : w * (36 - thr k bias) ≤ w * 35 := Nat.mul_le_mul_left _ (by omega)
      rw [hde, hqe]
      show par (dig d :: (tellK q' bias (k + 36) ++ r)) bias k w i = _
      unfold par
      rw [hd]
      simp only [Int.toNat_natCast]
      rw [if_neg (by omega), if_neg (by omega), if_neg (by omega), if_neg (by omega)]
      rw [ih q' (by
        have h1 : (q - thr k bias) / (36 - thr k bias) ≤ q - thr k bias := Nat.div_le_self _ _
        omega) _ _ _ (by omega) (by omega)]
      congr 2
      omega

/-- What is read is how it is told. -/
theorem tell_par (bias : Nat) : ∀ (s : List UInt8) (k w i j : Nat) (r : List UInt8), par s bias k w i = some (j, r) →
    ∃ q pre, j = i + q * w ∧ s = pre ++ r ∧ pre ≠ [] ∧ pre.map lower = tellK q bias k ∧ j ≤ 1099511627776 := by
  intro s
  induction s with
  | nil => intro k w i j r h; simp [par] at h
  | cons c s ih =>
    intro k w i j r h
    unfold par at h
    split at h
    · cases h
    · rename_i h0
      obtain ⟨hl, h36, _⟩ := lower_val c (by omega)
      have ht := thr_pos k bias
      split at h
      · cases h
      · rename_i h1
        split at h
        · rename_i h2
          simp only [Option.some.injEq, Prod.mk.injEq] at h
          obtain ⟨rfl, rfl⟩ := h
          refine ⟨(dval c.toNat).toNat, [c], rfl, rfl, by simp, ?_, by omega⟩
          rw [tellK_small h2]
          simp [hl]
        · rename_i h2
          split at h
          · cases h
          · obtain ⟨q', pre, rfl, rfl, hne, hp, hb⟩ := ih _ _ _ _ _ h
            obtain ⟨d, hd⟩ : ∃ d, (dval c.toNat).toNat = d := ⟨_, rfl⟩
            rw [hd] at hl h36 h2
            have hcomm : q' * (36 - thr k bias) = (36 - thr k bias) * q' := Nat.mul_comm _ _
            have hsub : d + q' * (36 - thr k bias) - thr k bias = (d - thr k bias) + (36 - thr k bias) * q' := by omega
            have hlt : d - thr k bias < 36 - thr k bias := by omega
            refine ⟨d + q' * (36 - thr k bias), c :: pre, ?_, rfl, by simp, ?_, hb⟩
            · rw [hd, Nat.add_mul, Nat.mul_assoc, Nat.mul_comm w, Nat.add_assoc]
            · rw [tellK_more (by omega), List.map_cons, hl, hsub, Nat.add_mul_mod_self_left, Nat.mod_eq_of_lt hlt, Nat.add_mul_div_left _ _ (by omega), Nat.div_eq_of_lt hlt, Nat.zero_add, hp]
              congr 2
              omega
end Go.Proofs.Ytmnpefpglpabmaa

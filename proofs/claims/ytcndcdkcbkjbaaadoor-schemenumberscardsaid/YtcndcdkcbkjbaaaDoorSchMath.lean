/-
  The document of layer 10 as plain functions (schemes, ports), and what follows of them.
-/
import Derived.Test.YtcndcdkcbkjbaaaDoorPMath
namespace Go.Proofs.YtcndcdkcbkjbaaaDoor

/-- P10.1. -/
def let10 (c : UInt8) : Bool := decide (97 ≤ c.toNat ∧ c.toNat ≤ 122) || decide (65 ≤ c.toNat ∧ c.toNat ≤ 90)
def fig10 (c : UInt8) : Bool := decide (48 ≤ c.toNat ∧ c.toNat ≤ 57)
def mor10 (c : UInt8) : Bool := let10 c || fig10 c || decide (c.toNat = 43) || decide (c.toNat = 45) || decide (c.toNat = 46)
def may10 : List UInt8 → Bool
  | [] => false
  | c :: t => let10 c && t.all mor10
def ftp10 : List UInt8 := [102, 116, 112]
def file10 : List UInt8 := [102, 105, 108, 101]
def http10 : List UInt8 := [104, 116, 116, 112]
def https10 : List UInt8 := [104, 116, 116, 112, 115]
def ws10 : List UInt8 := [119, 115]
def wss10 : List UInt8 := [119, 115, 115]
def spec10 (l : List UInt8) : Bool := decide (l = ftp10 ∨ l = file10 ∨ l = http10 ∨ l = https10 ∨ l = ws10 ∨ l = wss10)
def def10 (l : List UInt8) : Int := if l = ftp10 then 21 else if l = http10 ∨ l = ws10 then 80 else if l = https10 ∨ l = wss10 then 443 else -1
/-- P10.2. -/
def low10 (c : UInt8) : UInt8 := if 65 ≤ c.toNat ∧ c.toNat ≤ 90 then c + 32 else c
def small10 (l : List UInt8) : List UInt8 := l.map low10
def idx10 (l : List UInt8) : Nat := l.findIdx (· == 58)
def cut10 (l : List UInt8) : Option (List UInt8 × List UInt8) :=
  if idx10 l < l.length ∧ may10 (l.take (idx10 l)) = true then some (small10 (l.take (idx10 l)), l.drop (idx10 l + 1)) else none
/-- P10.3. -/
def val10 (l : List UInt8) : Nat := l.foldl (fun n c => 10 * n + (c.toNat - 48)) 0
def port10 (s o : List UInt8) : Int × Nat :=
  if s = [] then (-1, 0) else if s.all fig10 = false then (0, 4) else if 65535 < val10 s then (0, 4) else if (val10 s : Int) = def10 o then (-1, 0) else (val10 s, 0)

theorem low10_fin : ∀ n : Fin 256, low10 (low10 (UInt8.ofNat n.val)) = low10 (UInt8.ofNat n.val) ∧ let10 (low10 (UInt8.ofNat n.val)) = let10 (UInt8.ofNat n.val) ∧ mor10 (low10 (UInt8.ofNat n.val)) = mor10 (UInt8.ofNat n.val) := by decide +kernel
theorem low10_any (c : UInt8) : low10 (low10 c) = low10 c ∧ let10 (low10 c) = let10 c ∧ mor10 (low10 c) = mor10 c := by
  have h := low10_fin ⟨c.toNat, c.toNat_lt⟩
  simpa using h
theorem small10_once (l : List UInt8) : small10 (small10 l) = small10 l := by
  unfold small10
  rw [List.map_map]
  refine List.map_congr_left fun c _ => ?_
  exact (low10_any c).1
theorem may10_small (l : List UInt8) : may10 (small10 l) = may10 l := by
  cases l with
  | nil => rfl
  | cons c t =>
    show (let10 (low10 c) && (t.map low10).all mor10) = (let10 c && t.all mor10)
    rw [(low10_any c).2.1, List.all_map]
    congr 2
    funext x
    exact (low10_any x).2.2
theorem spec10_small {l : List UInt8} (h : spec10 l = true) : small10 l = l := by
  unfold spec10 at h
  rw [decide_eq_true_eq] at h
  rcases h with rfl | rfl | rfl | rfl | rfl | rfl <;> rfl
theorem let10_mor {c : UInt8} (h : let10 c = true) : mor10 c = true := by unfold mor10; rw [h]; rfl
theorem may10_mor {l : List UInt8} (h : may10 l = true) : ∀ c ∈ l, mor10 c = true := by
  cases l with
  | nil => cases h
  | cons c t =>
    change (let10 c && t.all mor10) = true at h
    rw [Bool.and_eq_true, List.all_eq_true] at h
    intro x hx
    rcases List.mem_cons.1 hx with rfl | hx
    · exact let10_mor h.1
    · exact h.2 x hx
theorem may10_colon {l : List UInt8} (h : may10 l = true) : ∀ c ∈ l, c ≠ 58 := by
  intro c hc e
  have := may10_mor h c hc
  rw [e] at this
  exact absurd this (by decide)
theorem may10_full {l : List UInt8} (h : may10 l = true) : l ≠ [] := by rintro rfl; cases h
/-- A text's begin, one byte longer. -/
theorem may10_take {l : List UInt8} {k : Nat} (h : k < l.length) : may10 (l.take (k + 1)) = if k = 0 then let10 l[k] else (may10 (l.take k) && mor10 l[k]) := by
  cases l with
  | nil => simp at h
  | cons c t =>
    cases k with
    | zero => simp [may10]
    | succ k =>
      have hk : k < t.length := by simpa using h
      rw [if_neg (by omega)]
      show (let10 c && (t.take (k + 1)).all mor10) = ((let10 c && (t.take k).all mor10) && mor10 t[k])
      rw [List.take_succ_eq_append_getElem hk, List.all_append, List.all_cons, List.all_nil, Bool.and_true, Bool.and_assoc]
theorem may10_begin {l : List UInt8} {k : Nat} (h : may10 (l.take (k + 1)) = false) : may10 l = false := by
  cases l with
  | nil => rfl
  | cons c t =>
    change (let10 c && (t.take k).all mor10) = false at h
    show (let10 c && t.all mor10) = false
    cases hc : let10 c with
    | false => rfl
    | true =>
      rw [hc, Bool.true_and] at h
      rw [Bool.true_and]
      rw [List.all_eq_false] at h ⊢
      obtain ⟨x, hx, hm⟩ := h
      exact ⟨x, List.mem_of_mem_take hx, hm⟩
/-- The first colon. -/
theorem idx10_here {l : List UInt8} {k : Nat} (h : k < l.length) (hk : l[k] = 58) (hp : ∀ c ∈ l.take k, c ≠ 58) : idx10 l = k := by
  unfold idx10
  rw [List.findIdx_eq h]
  refine ⟨by rw [hk]; rfl, fun j hj => ?_⟩
  have := hp l[j] (by rw [List.mem_take_iff_getElem]; exact ⟨j, by omega, rfl⟩)
  simpa using this
theorem idx10_none {l : List UInt8} (hp : ∀ c ∈ l, c ≠ 58) : ¬ idx10 l < l.length := by
  unfold idx10
  have : l.findIdx (· == 58) = l.length := by
    rw [List.findIdx_eq_length]
    intro c hc
    simpa using hp c hc
  omega
theorem cut10_none {l : List UInt8} (hp : ∀ c ∈ l, c ≠ 58) : cut10 l = none := by
  unfold cut10
  rw [if_neg (fun h => idx10_none hp h.1)]
theorem cut10_no {l : List UInt8} {k : Nat} (h : k < l.length) (hk : l[k] = 58) (hp : ∀ c ∈ l.take k, c ≠ 58) (hm : may10 (l.take k) = false) : cut10 l = none := by
  unfold cut10
  rw [idx10_here h hk hp, if_neg (fun x => by rw [hm] at x; cases x.2)]
theorem cut10_yes {l : List UInt8} {k : Nat} (h : k < l.length) (hk : l[k] = 58) (hp : ∀ c ∈ l.take k, c ≠ 58) (hm : may10 (l.take k) = true) : cut10 l = some (small10 (l.take k), l.drop (k + 1)) := by
  unfold cut10
  rw [idx10_here h hk hp, if_pos ⟨h, hm⟩]
/-- P10.4. -/
theorem cut10_back {l : List UInt8} (t : List UInt8) (h : may10 l = true) : cut10 (l ++ 58 :: t) = some (small10 l, t) := by
  have hlt : l.length < (l ++ 58 :: t).length := by simp
  have e1 : (l ++ 58 :: t)[l.length] = 58 := by simp
  have e2 : (l ++ 58 :: t).take l.length = l := by simp
  have e3 : (l ++ 58 :: t).drop (l.length + 1) = t := by
    rw [List.drop_append, List.drop_eq_nil_of_le (by omega)]
    simp
  rw [cut10_yes hlt e1 (by rw [e2]; exact may10_colon h) (by rw [e2]; exact h), e2, e3]

theorem val10_snoc (l : List UInt8) (c : UInt8) : val10 (l ++ [c]) = 10 * val10 l + (c.toNat - 48) := by
  unfold val10
  rw [List.foldl_append]; rfl
theorem val10_take {l : List UInt8} {k : Nat} (h : k < l.length) : val10 (l.take (k + 1)) = 10 * val10 (l.take k) + (l[k].toNat - 48) := by
  rw [List.take_succ_eq_append_getElem h, val10_snoc]
theorem val10_zero (l : List UInt8) : val10 (48 :: l) = val10 l := rfl
/-- A number by base 10. -/
def dcm10 (n : Nat) : List UInt8 := if n < 10 then [UInt8.ofNat (48 + n)] else dcm10 (n / 10) ++ [UInt8.ofNat (48 + n % 10)]
theorem fig_of {d : Nat} (h : d < 10) : (UInt8.ofNat (48 + d)).toNat = 48 + d := by
  simp
  omega
theorem dcm10_any (n : Nat) : val10 (dcm10 n) = n ∧ (dcm10 n).all fig10 = true ∧ dcm10 n ≠ [] := by
  induction n using Nat.strongRecOn with
  | ind n ih =>
    unfold dcm10
    split
    · rename_i h
      have e := fig_of h
      refine ⟨?_, ?_, by simp⟩
      · unfold val10
        simp only [List.foldl_cons, List.foldl_nil, e]
        omega
      · simp only [List.all_cons, List.all_nil, Bool.and_true]
        unfold fig10
        rw [e]
        exact decide_eq_true (by omega)
    · rename_i h
      obtain ⟨i1, i2, _⟩ := ih (n / 10) (by omega)
      have e := fig_of (d := n % 10) (by omega)
      refine ⟨?_, ?_, by simp⟩
      · rw [val10_snoc, i1, e]
        omega
      · rw [List.all_append, i2, Bool.true_and]
        simp only [List.all_cons, List.all_nil, Bool.and_true]
        unfold fig10
        rw [e]
        exact decide_eq_true (by omega)
theorem dcm10_len : ∀ (k n : Nat), n < 10 ^ (k + 1) → (dcm10 n).length ≤ k + 1
  | 0, n, h => by unfold dcm10; rw [if_pos (by simpa using h)]; simp
  | k + 1, n, h => by
    unfold dcm10
    split
    · simp
    · have := dcm10_len k (n / 10) (by rw [Nat.div_lt_iff_lt_mul (by omega)]; rw [Nat.pow_succ] at h; exact h)
      simp; omega
theorem port10_num {n : Nat} {s : List UInt8} (o : List UInt8) (hv : val10 s = n) (ha : s.all fig10 = true) (hne : s ≠ []) : port10 s o = if 65535 < n then (0, 4) else if (n : Int) = def10 o then (-1, 0) else ((n : Int), 0) := by
  unfold port10
  rw [if_neg hne, if_neg (by rw [ha]; simp), hv]
theorem port10_cases (s o : List UInt8) : (port10 s o).2 = 0 ∨ port10 s o = (0, 4) := by
  unfold port10
  split
  · exact .inl rfl
  · split
    · exact .inr rfl
    · split
      · exact .inr rfl
      · split
        · exact .inl rfl
        · exact .inl rfl
theorem val10_min (v d : Nat) : Nat.min (10 * Nat.min v 100000 + d) 100000 = Nat.min (10 * v + d) 100000 := by
  simp only [Nat.min_def]
  repeat' split
  all_goals omega
theorem def10_rng (l : List UInt8) : -1 ≤ def10 l ∧ def10 l ≤ 443 := by
  unfold def10
  split
  · decide
  · split
    · decide
    · split <;> decide
end Go.Proofs.YtcndcdkcbkjbaaaDoor

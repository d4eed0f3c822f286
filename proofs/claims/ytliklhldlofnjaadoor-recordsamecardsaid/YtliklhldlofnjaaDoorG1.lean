/-
  In this text, one behind the other: PMath, SchMath, PthMath, XMath, YMath.
-/
import Derived.Laws.Cover4
/-
  The document of layer 3 as plain functions (sets, telling by percent signs, reading), and what follows of them.
-/
namespace Go.Proofs.YtliklhldlofnjaaDoor

/-- A figure's value; -1: it is none. -/
def val (b : Int) : Int := if 48 ≤ b ∧ b ≤ 57 then b - 48 else if 65 ≤ b ∧ b ≤ 70 then b - 65 + 10 else if 97 ≤ b ∧ b ≤ 102 then b - 97 + 10 else -1
end Go.Proofs.YtliklhldlofnjaaDoor

/-
  The document of layer 10 as plain functions (schemes, ports), and what follows of them.
-/
namespace Go.Proofs.YtliklhldlofnjaaDoor

/-- A number by base 10. -/
def dcm10 (n : Nat) : List UInt8 := if n < 10 then [UInt8.ofNat (48 + n)] else dcm10 (n / 10) ++ [UInt8.ofNat (48 + n % 10)]
theorem dcm10_len : ∀ (k n : Nat), n < 10 ^ (k + 1) → (dcm10 n).length ≤ k + 1
  | 0, n, h => by unfold dcm10; rw [if_pos (by simpa using h)]; simp
  | k + 1, n, h => by
    unfold dcm10
    split
    · simp
    · have := dcm10_len k (n / 10) (by rw [Nat.div_lt_iff_lt_mul (by omega)]; rw [Nat.pow_succ] at h; exact h)
      simp; omega
end Go.Proofs.YtliklhldlofnjaaDoor

/-
  The document of layer 11 as plain functions (segments, paths), and what follows of them.
-/
namespace Go.Proofs.YtliklhldlofnjaaDoor

abbrev Seg := List UInt8
def txt11 (l : List Seg) : Seg := l.flatMap (47 :: ·)
end Go.Proofs.YtliklhldlofnjaaDoor

/-
  The document of layer 7 as plain functions (parts, numbers, addresses, texts), and what follows of them.
-/
namespace Go.Proofs.YtliklhldlofnjaaDoor

/-- A text's parts, between bytes c. -/
def cut7 (c : UInt8) : List UInt8 → List (List UInt8)
  | [] => [[]]
  | b :: l => if b = c then [] :: cut7 c l else match cut7 c l with
    | [] => [[b]]
    | p :: ps => (b :: p) :: ps
/-- Figures of a base, behind a number. -/
def digs (base n : Nat) : List UInt8 → Option Nat
  | [] => some n
  | b :: l => if 0 ≤ val b.toNat ∧ val b.toNat < base then digs base (n * base + (val b.toNat).toNat) l else none
/-- By which base a part is read, and what is read. -/
def base7 : List UInt8 → Nat × List UInt8
  | 48 :: x :: t => if x = 120 ∨ x = 88 then (16, t) else (8, x :: t)
  | l => (10, l)
/-- A part's number. -/
def num7 (s : List UInt8) : Option Nat := if s = [] then none else digs (base7 s).1 0 (base7 s).2
/-! Texts. -/
def dec8 (n : Nat) : List UInt8 := (if 100 ≤ n then [UInt8.ofNat (48 + n / 100)] else []) ++ (if 10 ≤ n then [UInt8.ofNat (48 + n / 10 % 10)] else []) ++ [UInt8.ofNat (48 + n % 10)]
def text7 (a : Nat) : List UInt8 := dec8 (a / 16777216) ++ 46 :: (dec8 (a / 65536 % 256) ++ 46 :: (dec8 (a / 256 % 256) ++ 46 :: dec8 (a % 256)))
theorem dec8_facts : ∀ n : Fin 256, num7 (dec8 n.val) = some n.val ∧ (∀ b ∈ dec8 n.val, b ≠ 46) ∧ 1 ≤ (dec8 n.val).length ∧ (dec8 n.val).length ≤ 3 := by decide +kernel
theorem dec8_len {n : Nat} (h : n < 256) : 1 ≤ (dec8 n).length ∧ (dec8 n).length ≤ 3 := (dec8_facts ⟨n, h⟩).2.2
theorem text7_len {a : Nat} (h : a < 4294967296) : 7 ≤ (text7 a).length ∧ (text7 a).length ≤ 15 := by
  have h1 := dec8_len (n := a / 16777216) (by omega)
  have h2 := dec8_len (n := a / 65536 % 256) (by omega)
  have h3 := dec8_len (n := a / 256 % 256) (by omega)
  have h4 := dec8_len (n := a % 256) (by omega)
  unfold text7
  simp only [List.length_append, List.length_cons]
  omega
/-! Numbers by base 10. -/
end Go.Proofs.YtliklhldlofnjaaDoor

/-
  The document of layer 8 as plain functions (pieces, quads, addresses, texts), and what follows of them.
-/
namespace Go.Proofs.YtliklhldlofnjaaDoor

/-! Texts. -/
def hexd (n : Nat) : UInt8 := if n < 10 then UInt8.ofNat (48 + n) else UInt8.ofNat (87 + n)
def hex8 (n : Nat) : List UInt8 := if n < 16 then [hexd n] else hex8 (n / 16) ++ [hexd (n % 16)]
/-- How many noughts stand first. -/
def run8 : List Nat → Nat
  | [] => 0
  | a :: l => if a = 0 then run8 l + 1 else 0
/-- The first place of the longest run, from some on. -/
def best8 (l : List Nat) : Nat → Nat → Nat → Nat
  | 0, _, b => b
  | k + 1, i, b => best8 l k (i + 1) (if run8 (l.drop b) < run8 (l.drop i) then i else b)
def join8 : List Nat → List UInt8
  | [] => []
  | [n] => hex8 n
  | n :: m :: l => hex8 n ++ 58 :: join8 (m :: l)
def cutAt (l : List Nat) : Nat := best8 l 8 0 0
def text8 (l : List Nat) : List UInt8 :=
  if run8 (l.drop (cutAt l)) < 2 then join8 l else join8 (l.take (cutAt l)) ++ 58 :: 58 :: join8 (l.drop (cutAt l + run8 (l.drop (cutAt l))))

theorem hex8_len : ∀ (k n : Nat), n < 16 ^ (k + 1) → 1 ≤ (hex8 n).length ∧ (hex8 n).length ≤ k + 1 := by
  intro k
  induction k with
  | zero => intro n h; unfold hex8; rw [if_pos (by omega)]; simp
  | succ k ih =>
    intro n h
    unfold hex8
    split
    · simp
    · have := ih (n / 16) (by rw [Nat.pow_succ] at h; omega)
      rw [List.length_append]
      simp
      omega
theorem hex8_four {n : Nat} (h : n < 65536) : 1 ≤ (hex8 n).length ∧ (hex8 n).length ≤ 4 := hex8_len 3 n (by omega)
/-! No pair of colons in what is joined; none ahead of the pair. -/
theorem run8_le (l : List Nat) : run8 l ≤ l.length := by
  induction l with
  | nil => exact Nat.le_refl _
  | cons a l ih => unfold run8; split <;> simp <;> omega
theorem join8_len : ∀ (l : List Nat), (∀ n ∈ l, n < 65536) → (join8 l).length ≤ 5 * l.length - 1 ∧ (0 < l.length → 2 * l.length - 1 ≤ (join8 l).length) := by
  intro l
  induction l with
  | nil => intro _; simp [join8]
  | cons n l ih =>
    intro h
    have hn := hex8_four (h n (List.mem_cons_self ..))
    have := ih (fun x hx => h x (List.mem_cons_of_mem _ hx))
    cases l with
    | nil => simp [join8]; omega
    | cons m l =>
      rw [join8]
      simp only [List.length_append, List.length_cons] at this ⊢
      omega
theorem text8_len {l : List Nat} (hlen : l.length = 8) (hl : ∀ n ∈ l, n < 65536) : 2 ≤ (text8 l).length ∧ (text8 l).length ≤ 39 := by
  unfold text8
  obtain ⟨b, hb⟩ : ∃ b, cutAt l = b := ⟨_, rfl⟩
  obtain ⟨n, hn⟩ : ∃ n, run8 (l.drop b) = n := ⟨_, rfl⟩
  rw [hb, hn]
  split
  · have := join8_len l hl
    rw [hlen] at this
    omega
  · have h1 := join8_len (l.take b) (fun x hx => hl x (List.mem_of_mem_take hx))
    have h2 := join8_len (l.drop (b + n)) (fun x hx => hl x (List.mem_of_mem_drop hx))
    have hnl := run8_le (l.drop b)
    rw [hn, List.length_drop, hlen] at hnl
    rw [List.length_take, hlen] at h1
    rw [List.length_drop, hlen] at h2
    simp only [List.length_append, List.length_cons]
    omega
end Go.Proofs.YtliklhldlofnjaaDoor

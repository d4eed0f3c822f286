/-
  slices.SortStableFunc at the program's comparison: the symmetric merge.
-/
import Derived.Test.YtmnpefpglpabmaaQSym
namespace Go.Proofs.Ytmnpefpglpabmaa
open Go.RowKit

/-- The halves, as rows. -/
theorem row_halves {X A B Y : List Nat} {s t : Nat} : X ++ A ++ B ++ Y = (X ++ A.take s) ++ A.drop s ++ B.take t ++ (B.drop t ++ Y) := by
  have e1 : A = A.take s ++ A.drop s := (List.take_append_drop _ _).symm
  have e2 : B = B.take t ++ B.drop t := (List.take_append_drop _ _).symm
  conv => lhs; rw [e1, e2]
  simp only [List.append_assoc]

structure SymTail (key : Nat → Int) (bl blk cap N : Nat) (w0 : World) (X A B Y A1 B1 A2 B2 : List Nat) (a m b mid i en : Nat) : Prop where
  r0 : ∀ w1, RowAt blk (X ++ A ++ B ++ Y) w0 w1 → i < m → m < en → Calls Try.prog 52 #[.slice (some ⟨blk, 0, none⟩) N cap, .int .i64 i, .int .i64 m, .int .i64 en, .func (.func 21) #[] #[.pointer (some ⟨bl, 0, none⟩)]] w1 fun e w' => e = .returned (.tuple #[]) ∧ RowAt blk (X ++ A1 ++ B1 ++ (A2 ++ B2 ++ Y)) w0 w'
  r1 : ∀ w1, RowAt blk (X ++ A ++ B ++ Y) w0 w1 → ¬ (i < m ∧ m < en) → RowAt blk (X ++ A1 ++ B1 ++ (A2 ++ B2 ++ Y)) w0 w1
  l0 : ∀ w1, RowAt blk (X ++ A1 ++ B1 ++ (A2 ++ B2 ++ Y)) w0 w1 → a < i → i < mid → Calls Try.prog 48 #[.slice (some ⟨blk, 0, none⟩) N cap, .int .i64 a, .int .i64 i, .int .i64 mid, .func (.func 21) #[] #[.pointer (some ⟨bl, 0, none⟩)]] w1 (SymPost key blk X A1 B1 (A2 ++ B2 ++ Y) w0)
  l1 : ∀ w1, RowAt blk (X ++ A1 ++ B1 ++ (A2 ++ B2 ++ Y)) w0 w1 → ¬ (a < i ∧ i < mid) → ∃ C1, C1.Perm (A1 ++ B1) ∧ Srt key C1 ∧ RowAt blk (X ++ C1 ++ (A2 ++ B2 ++ Y)) w0 w1
  q0 : ∀ w1 C1, C1.Perm (A1 ++ B1) → RowAt blk (X ++ C1 ++ (A2 ++ B2 ++ Y)) w0 w1 → mid < en → en < b → Calls Try.prog 48 #[.slice (some ⟨blk, 0, none⟩) N cap, .int .i64 mid, .int .i64 en, .int .i64 b, .func (.func 21) #[] #[.pointer (some ⟨bl, 0, none⟩)]] w1 (SymPost key blk (X ++ C1) A2 B2 Y w0)
  q1 : ∀ w1 C1, RowAt blk (X ++ C1 ++ (A2 ++ B2 ++ Y)) w0 w1 → ¬ (mid < en ∧ en < b) → ∃ C2, C2.Perm (A2 ++ B2) ∧ Srt key C2 ∧ RowAt blk (X ++ C1 ++ C2 ++ Y) w0 w1
  fin : ∀ C1 C2 w1, C1.Perm (A1 ++ B1) → Srt key C1 → C2.Perm (A2 ++ B2) → Srt key C2 → RowAt blk (X ++ C1 ++ C2 ++ Y) w0 w1 → ∃ C, C.Perm (A ++ B) ∧ Srt key C ∧ RowAt blk (X ++ C ++ Y) w0 w1

theorem sym_tail (key : Nat → Int) (bl blk cap N M : Nat) (w0 : World) (f : Nat)
    (IH : ∀ (X A B Y : List Nat) (a m b : Nat) (w : World), A.length + B.length ≤ f → 1 ≤ A.length → 1 ≤ B.length → (∀ x ∈ A, x < M) → (∀ y ∈ B, y < M) → a = X.length → m = a + A.length → b = m + B.length → N = b + Y.length → N ≤ 1000 → Srt key A → Srt key B → (∀ x ∈ A, ∀ y ∈ B, x < y) → RowAt blk (X ++ A ++ B ++ Y) w0 w →
      Calls Try.prog 48 #[.slice (some ⟨blk, 0, none⟩) N cap, .int .i64 a, .int .i64 m, .int .i64 b, .func (.func 21) #[] #[.pointer (some ⟨bl, 0, none⟩)]] w (SymPost key blk X A B Y w0))
    (X A B Y : List Nat) (a m b mid i en s0 r0 : Nat) (hX : a = X.length ∧ m = a + A.length ∧ b = m + B.length ∧ N = b + Y.length ∧ A.length + B.length ≤ f + 1) (hl : N ≤ 1000)
    (hA : (∀ x ∈ A, x < M) ∧ (∀ y ∈ B, y < M) ∧ Srt key A ∧ Srt key B ∧ ∀ x ∈ A, ∀ y ∈ B, x < y) (hma : a < mid) (hmb : mid < b) (hsr : (s0 = a ∨ mid + m = b + s0) ∧ (r0 = mid ∨ r0 = m)) (h1 : s0 ≤ i) (h2 : i ≤ r0) (h3 : a ≤ s0) (h4 : r0 ≤ m) (h5 : r0 ≤ mid) (h6 : mid + m ≤ b + s0) (hen : en + i = mid + m)
    (hI : (i = s0 ∨ ∃ (p : i - a - 1 < A.length) (q : mid - i < B.length), key A[i - a - 1] ≤ key B[mid - i]) ∧ (i = r0 ∨ ∃ (p : i - a < A.length) (q : mid - 1 - i < B.length), key B[mid - 1 - i] < key A[i - a])) :
    SymTail key bl blk cap N w0 X A B Y (A.take (i - a)) (B.take (mid - i)) (A.drop (i - a)) (B.drop (mid - i)) a m b mid i en := by
  obtain ⟨g1, g2, g3, g4, g5⟩ := hX
  obtain ⟨m1, m2, sA, sB, hc⟩ := hA
  have hla1 : (A.take (i - a)).length = i - a := by simp; omega
  have hlb1 : (B.take (mid - i)).length = mid - i := by simp; omega
  have hla2 : (A.drop (i - a)).length = m - i := by simp; omega
  have hlb2 : (B.drop (mid - i)).length = b - en := by simp; omega
  have hcross : ∀ x ∈ A.take (i - a) ++ B.take (mid - i), ∀ y ∈ A.drop (i - a) ++ B.drop (mid - i), prec key x y := by
    have := sym_split (s := i - a) (h := mid - a) sA sB hc (by omega) ?_ ?_
    · rw [show mid - a - (i - a) = mid - i by omega] at this
      exact this
    · rcases hI.1 with e | ⟨p, q, hk⟩
      · rcases hsr.1 with e2 | e2
        · exact .inl (by omega)
        · exact .inr (.inl (by omega))
      · refine .inr (.inr ⟨p, by omega, ?_⟩)
        have e3 : mid - a - (i - a) = mid - i := by omega
        simp only [e3]
        exact Int.not_lt.2 hk
    · rcases hI.2 with e | ⟨p, q, hk⟩
      · rcases hsr.2 with e2 | e2
        · exact .inr (.inl (by omega))
        · exact .inl (by omega)
      · refine .inr (.inr ⟨p, by omega, ?_⟩)
        have e3 : mid - a - 1 - (i - a) = mid - 1 - i := by omega
        simp only [e3]
        exact hk
  have hperm : ∀ C1 C2 : List Nat, C1.Perm (A.take (i - a) ++ B.take (mid - i)) → C2.Perm (A.drop (i - a) ++ B.drop (mid - i)) → (C1 ++ C2).Perm (A ++ B) := by
    intro C1 C2 p1 p2
    refine (p1.append p2).trans ?_
    conv => rhs; rw [← List.take_append_drop (i - a) A, ← List.take_append_drop (mid - i) B]
    rw [List.append_assoc, List.append_assoc]
    refine List.Perm.append_left _ ?_
    rw [← List.append_assoc, ← List.append_assoc]
    exact List.Perm.append_right _ List.perm_append_comm
  have mA1 : ∀ x ∈ A.take (i - a), x ∈ A := fun x hx => List.mem_of_mem_take hx
  have mB1 : ∀ x ∈ B.take (mid - i), x ∈ B := fun x hx => List.mem_of_mem_take hx
  have mA2 : ∀ x ∈ A.drop (i - a), x ∈ A := fun x hx => List.mem_of_mem_drop hx
  have mB2 : ∀ x ∈ B.drop (mid - i), x ∈ B := fun x hx => List.mem_of_mem_drop hx
  constructor
  · intro w1 hr h7 h8
    have := rotate_any bl blk cap N (X ++ A.take (i - a)) (A.drop (i - a)) (B.take (mid - i)) (B.drop (mid - i) ++ Y) i m en w0 w1 (by rw [List.length_append]; omega) (by omega) (by omega) (by rw [List.length_append]; omega) hl (by omega) (by omega) (by rw [← row_halves]; exact hr)
    refine this.mono ?_
    rintro e w' ⟨he, hr⟩
    exact ⟨he, by simpa using hr⟩
  · intro w1 hr h7
    rw [row_halves (s := i - a) (t := mid - i)] at hr
    by_cases h8 : i < m
    · have e : B.take (mid - i) = [] := List.eq_nil_of_length_eq_zero (by omega)
      rw [e] at hr ⊢
      simpa only [List.append_assoc, List.nil_append, List.append_nil] using hr
    · have e : A.drop (i - a) = [] := List.eq_nil_of_length_eq_zero (by omega)
      rw [e] at hr ⊢
      simpa using hr
  · intro w1 hr h7 h8
    exact IH X _ _ _ a i mid w1 (by omega) (by omega) (by omega) (fun x hx => m1 x (mA1 x hx)) (fun x hx => m2 x (mB1 x hx)) g1 (by omega) (by omega) (by simp only [List.length_append]; omega) hl (srt_take sA _) (srt_take sB _) (fun x hx y hy => hc x (mA1 x hx) y (mB1 y hy)) hr
  · intro w1 hr h7
    by_cases h8 : a < i
    · have e : B.take (mid - i) = [] := List.eq_nil_of_length_eq_zero (by omega)
      refine ⟨A.take (i - a), by rw [e, List.append_nil], srt_take sA _, ?_⟩
      rw [e, List.append_nil] at hr
      exact hr
    · have e : A.take (i - a) = [] := List.eq_nil_of_length_eq_zero (by omega)
      refine ⟨B.take (mid - i), by rw [e, List.nil_append], srt_take sB _, ?_⟩
      rw [e, List.append_nil] at hr
      exact hr
  · intro w1 C1 hp hr h7 h8
    have hC1 : C1.length = mid - a := by rw [hp.length_eq, List.length_append]; omega
    exact IH (X ++ C1) _ _ _ mid en b w1 (by omega) (by omega) (by omega) (fun x hx => m1 x (mA2 x hx)) (fun x hx => m2 x (mB2 x hx)) (by rw [List.length_append]; omega) (by omega) (by omega) (by omega) hl (srt_drop sA _) (srt_drop sB _) (fun x hx y hy => hc x (mA2 x hx) y (mB2 y hy)) (by simpa using hr)
  · intro w1 C1 hr h7
    by_cases h8 : mid < en
    · have e : B.drop (mid - i) = [] := List.eq_nil_of_length_eq_zero (by omega)
      refine ⟨A.drop (i - a), by rw [e, List.append_nil], srt_drop sA _, ?_⟩
      rw [e, List.append_nil] at hr
      simpa using hr
    · have e : A.drop (i - a) = [] := List.eq_nil_of_length_eq_zero (by omega)
      refine ⟨B.drop (mid - i), by rw [e, List.nil_append], srt_drop sB _, ?_⟩
      rw [e, List.nil_append] at hr
      simpa using hr
  · intro C1 C2 w1 p1 s1 p2 s2 hr
    exact ⟨C1 ++ C2, hperm C1 C2 p1 p2, srt_append s1 s2 (fun x hx y hy => hcross x (p1.subset hx) y (p2.subset hy)), by simpa using hr⟩

set_option maxHeartbeats 4000000 in
set_option maxRecDepth 100000 in
theorem sym_more (key : Nat → Int) (bl blk cap N M : Nat) (w0 : World) (HC : Hid (CmpOk key M blk bl w0)) (f : Nat)
    (IH : Hid (∀ (X A B Y : List Nat) (a m b : Nat) (w : World), A.length + B.length ≤ f → 1 ≤ A.length → 1 ≤ B.length → (∀ x ∈ A, x < M) → (∀ y ∈ B, y < M) → a = X.length → m = a + A.length → b = m + B.length → N = b + Y.length → N ≤ 1000 → Srt key A → Srt key B → (∀ x ∈ A, ∀ y ∈ B, x < y) → RowAt blk (X ++ A ++ B ++ Y) w0 w →
      Calls Try.prog 48 #[.slice (some ⟨blk, 0, none⟩) N cap, .int .i64 a, .int .i64 m, .int .i64 b, .func (.func 21) #[] #[.pointer (some ⟨bl, 0, none⟩)]] w (SymPost key blk X A B Y w0)))
    (X A B Y : List Nat) (a m b : Nat) (w : World) (hf : A.length + B.length ≤ f + 1) (hA2 : 2 ≤ A.length) (hB2 : 2 ≤ B.length) (hMA : ∀ x ∈ A, x < M) (hMB : ∀ y ∈ B, y < M) (ha : a = X.length) (hm : m = a + A.length) (hb : b = m + B.length) (hN : N = b + Y.length) (hl : N ≤ 1000) (hA : Srt key A) (hB : Srt key B) (hX : ∀ x ∈ A, ∀ y ∈ B, x < y) (h : RowAt blk (X ++ A ++ B ++ Y) w0 w) :
    Calls Try.prog 48 #[.slice (some ⟨blk, 0, none⟩) N cap, .int .i64 a, .int .i64 m, .int .i64 b, .func (.func 21) #[] #[.pointer (some ⟨bl, 0, none⟩)]] w (SymPost key blk X A B Y w0) := by
  have HH := Lib.hid h
  clear h
  have hab : a + 2 ≤ m := by omega
  have hmb : m + 2 ≤ b := by omega
  have hbN : b ≤ N := by omega
  have h1 : (((m : Int) - (a : Int)) == 1) = false := by rw [beq_eq_false_iff_ne]; omega
  have h2 : (((b : Int) - (m : Int)) == 1) = false := by rw [beq_eq_false_iff_ne]; omega
  have HX : Hid (a = X.length ∧ m = a + A.length ∧ b = m + B.length ∧ N = b + Y.length ∧ A.length + B.length ≤ f + 1) := ⟨ha, hm, hb, hN, hf⟩
  have HA := Lib.hid (And.intro hMA (And.intro hMB (And.intro hA (And.intro hB hX))))
  clear ha hm hb hN hA hB hX hMA hMB hA2 hB2 hf
  obtain ⟨mid, hmid⟩ : ∃ q, (a + b) / 2 = q := ⟨_, rfl⟩
  have hmide : ((a : Int) + (b : Int)) / 2 = (mid : Int) := by omega
  have hma : a < mid := by omega
  have hmb2 : mid < b := by omega
  have HMid : Hid ((a + b) / 2 = mid) := hmid
  obtain ⟨s0, r0, hs0, hr0⟩ : ∃ s0 r0, s0 = (if mid < m then mid + m - b else a) ∧ r0 = (if mid < m then mid else m) := ⟨_, _, rfl, rfl⟩
  have hsr : a ≤ s0 ∧ s0 ≤ r0 ∧ r0 ≤ m ∧ r0 ≤ mid ∧ mid + m ≤ b + s0 := by
    rw [hs0, hr0]; split <;> omega
  obtain ⟨has0, hsr0, hr0m, hr0mid, hs0b⟩ := hsr
  have HSR : Hid ((s0 = a ∨ mid + m = b + s0) ∧ (r0 = mid ∨ r0 = m)) := by
    show (s0 = a ∨ mid + m = b + s0) ∧ (r0 = mid ∨ r0 = m)
    rw [hs0, hr0]; split <;> omega
  have start : ∀ (P : Prop), (mid < m → (mid : Int) + (m : Int) - (b : Int) = (s0 : Int) → r0 = mid → P) → (¬ mid < m → s0 = a → r0 = m → P) → P := by
    intro P g1 g2
    by_cases hc : mid < m
    · refine g1 hc ?_ ?_
      · rw [hs0, if_pos hc]
        have : b ≤ mid + m := by omega
        omega
      · rw [hr0, if_pos hc]
    · refine g2 hc ?_ ?_
      · rw [hs0, if_neg hc]
      · rw [hr0, if_neg hc]
  have LOOP : ∀ (Q : Prop), Q → Q := fun _ q => q
  clear LOOP
  refine start _ ?_ ?_

  · intro hc hs0e hr0e
    clear start hs0 hr0 hmid
    go_enter Try.func48, Try.ntmps48
    go_wp2
    clear hmide hs0e
    go_loopw [20, 21] (fun s t wr => ∃ i j : Nat, s = .int .i64 i ∧ t = .int .i64 j ∧ s0 ≤ i ∧ i ≤ j ∧ j ≤ r0 ∧ (i = s0 ∨ ∃ (p : i - a - 1 < A.length) (q : mid - i < B.length), key A[i - a - 1] ≤ key B[mid - i]) ∧ (j = r0 ∨ ∃ (p : j - a < A.length) (q : mid - 1 - j < B.length), key B[mid - 1 - j] < key A[j - a]) ∧ RowAt blk (X ++ A ++ B ++ Y) w0 wr) (fun s t _ => (intOf t).toNat - (intOf s).toNat)
    case atStart => exact ⟨s0, r0, by first | rfl | go_num, by first | rfl | go_num, Nat.le_refl _, hsr0, Nat.le_refl _, .inl rfl, .inl rfl, HH.out⟩
    case round =>
      obtain ⟨i, j, rfl, rfl, hmi, hij, hjb, hi1, hj1, hr⟩ := hrel
      clear HH
      have HH := Lib.hid hr
      clear hr
      have HI : Hid ((i = s0 ∨ ∃ (p : i - a - 1 < A.length) (q : mid - i < B.length), key A[i - a - 1] ≤ key B[mid - i]) ∧ (j = r0 ∨ ∃ (p : j - a < A.length) (q : mid - 1 - j < B.length), key B[mid - 1 - j] < key A[j - a])) := ⟨hi1, hj1⟩
      clear hi1 hj1
      by_cases hlt : i < j
      · obtain ⟨q, hq⟩ : ∃ q, (i + j) / 2 = q := ⟨_, rfl⟩
        have hqi : i ≤ q := by omega
        have hqj : q < j := by omega
        have hqe : ((i : Int) + (j : Int)) / 2 = (q : Int) := by omega
        clear hq
        have hqA : q - a < A.length := by have := HX.out; omega
        have hqB : mid - 1 - q < B.length := by have := HX.out; omega
        obtain ⟨x, hx⟩ : ∃ x, A[q - a] = x := ⟨_, rfl⟩
        obtain ⟨y, hy⟩ : ∃ y, B[mid - 1 - q] = y := ⟨_, rfl⟩
        obtain ⟨z, hz⟩ : ∃ z, z = mid + m - 1 - q := ⟨_, rfl⟩
        have hze : (mid : Int) + (m : Int) - 1 - (q : Int) = (z : Int) := by omega
        have hzN : z < N := by omega
        have hqN : q < N := by omega
        have cx := HH.out.c (i := q) (x := x) (by
          obtain ⟨g1, g2, g3, g4, g5⟩ := HX.out
          have := get_at X A (B ++ Y) hqA (i := q) (by omega)
          rw [hx] at this
          simpa using this)
        have cy := HH.out.c (i := z) (x := y) (by
          obtain ⟨g1, g2, g3, g4, g5⟩ := HX.out
          have := get_at (X ++ A) B Y hqB (i := z) (by simp; omega)
          rw [hy] at this
          exact this)
        clear hz
        have hxM : x < M := by rw [← hx]; exact HA.out.1 _ (List.getElem_mem hqA)
        have hyM : y < M := by rw [← hy]; exact HA.out.2.1 _ (List.getElem_mem hqB)
        have hC := fun k => HC.out.lt HH.out.kept hyM hxM k
        have HY := Lib.hid (And.intro hx hy)
        clear hx hy
        by_cases hk : key y < key x
        · have hd := cmpI_neg hk
          obtain ⟨cv, hcv⟩ : ∃ cv, cmpI (key y) (key x) = cv := ⟨_, rfl⟩
          rw [hcv] at hd
          simp only [hcv] at hC
          have hcv0 : cv < 0 := of_decide_eq_true hd
          have HK := Lib.hid hk
          clear hcv hk
          go_wp2_with fail
          clear hqe
          go_quiet ((go_at_call 21; exact hC _))
          clear hze
          go_wp2
          go_roundw
          case rel =>
            refine ⟨i, q, rfl, by go_num, by omega, by omega, by omega, HI.out.1, .inr ⟨hqA, hqB, ?_⟩, HH.out.drewN _⟩
            rw [HY.out.1, HY.out.2]
            exact HK.out
          case measure => simp [intOf]; omega
        · have hd := cmpI_not hk
          obtain ⟨cv, hcv⟩ : ∃ cv, cmpI (key y) (key x) = cv := ⟨_, rfl⟩
          rw [hcv] at hd
          simp only [hcv] at hC
          have hcv0 : ¬ cv < 0 := of_decide_eq_false hd
          have HK : Hid (key x ≤ key y) := Int.not_lt.1 hk
          clear hcv hk
          go_wp2_with fail
          clear hqe
          go_quiet ((go_at_call 21; exact hC _))
          clear hze
          go_wp2
          go_roundw
          case rel =>
            refine ⟨q + 1, j, by go_num, rfl, by omega, by omega, by omega, .inr ⟨by omega, by omega, ?_⟩, HI.out.2, HH.out.drewN _⟩
            have e1 : q + 1 - a - 1 = q - a := by omega
            have e2 : mid - (q + 1) = mid - 1 - q := by omega
            simp only [e1, e2, HY.out.1, HY.out.2]
            exact HK.out
          case measure => simp [intOf]; omega
      · obtain rfl : i = j := by omega

        obtain ⟨en, hen⟩ : ∃ q, q = mid + m - i := ⟨_, rfl⟩
        have hene : (mid : Int) + (m : Int) - (i : Int) = (en : Int) := by omega
        have HT := Lib.hid (sym_tail key bl blk cap N M w0 f IH.out X A B Y a m b mid i en s0 r0 HX.out hl HA.out hma hmb2 HSR.out hmi hjb has0 hr0m hr0mid hs0b (by omega) HI.out)
        generalize A.take (i - a) = A1 at HT
        generalize B.take (mid - i) = B1 at HT
        generalize A.drop (i - a) = A2 at HT
        generalize B.drop (mid - i) = B2 at HT
        have hen1 : i ≤ m := by omega
        have hen2 : m ≤ en := by omega
        have hen3 : en ≤ b := by omega
        clear hen HI HMid
        by_cases ht0 : i < m ∧ m < en
        · obtain ⟨hp0, hq0⟩ := ht0
          go_wp2_with fail
          all_goals
            refine (HT.out.r0 _ HH.out hp0 hq0).mono ?_
            rintro e w1 ⟨rfl, hr1⟩
            have HR1 := Lib.hid hr1
            clear hr1
            by_cases ht1 : a < i ∧ i < mid
            · obtain ⟨hp1, hq1⟩ := ht1
              go_wp2_with fail
              all_goals
                refine (HT.out.l0 _ HR1.out hp1 hq1).mono ?_
                rintro e w2 ⟨rfl, C1, hcp, hcs, hr2⟩
                have HC1 := Lib.hid (And.intro hcp hcs)
                have HR2 := Lib.hid hr2
                clear hcp hcs hr2
                by_cases ht2 : mid < en ∧ en < b
                · obtain ⟨hp2, hq2⟩ := ht2
                  go_wp2_with fail
                  all_goals
                    refine (HT.out.q0 _ C1 HC1.out.1 HR2.out hp2 hq2).mono ?_
                    rintro e w3 ⟨rfl, C2, hcp, hcs, hr3⟩
                    have HC2 := Lib.hid (And.intro hcp hcs)
                    have HR3 := Lib.hid hr3
                    clear hcp hcs hr3
                    go_wp2
                    all_goals
                      go_end0
                      exact ⟨rfl, HT.out.fin C1 C2 _ HC1.out.1 HC1.out.2 HC2.out.1 HC2.out.2 HR3.out⟩
                · obtain ⟨C2, hcp, hcs, hr3⟩ := HT.out.q1 _ C1 HR2.out ht2
                  have HC2 := Lib.hid (And.intro hcp hcs)
                  have HR3 := Lib.hid hr3
                  clear hcp hcs hr3
                  go_wp2
                  all_goals
                    go_end0
                    exact ⟨rfl, HT.out.fin C1 C2 _ HC1.out.1 HC1.out.2 HC2.out.1 HC2.out.2 HR3.out⟩
            · obtain ⟨C1, hcp, hcs, hr2⟩ := HT.out.l1 _ HR1.out ht1
              have HC1 := Lib.hid (And.intro hcp hcs)
              have HR2 := Lib.hid hr2
              clear hcp hcs hr2
              by_cases ht2 : mid < en ∧ en < b
              · obtain ⟨hp2, hq2⟩ := ht2
                go_wp2_with fail
                all_goals
                  refine (HT.out.q0 _ C1 HC1.out.1 HR2.out hp2 hq2).mono ?_
                  rintro e w3 ⟨rfl, C2, hcp, hcs, hr3⟩
                  have HC2 := Lib.hid (And.intro hcp hcs)
                  have HR3 := Lib.hid hr3
                  clear hcp hcs hr3
                  go_wp2
                  all_goals
                    go_end0
                    exact ⟨rfl, HT.out.fin C1 C2 _ HC1.out.1 HC1.out.2 HC2.out.1 HC2.out.2 HR3.out⟩
              · obtain ⟨C2, hcp, hcs, hr3⟩ := HT.out.q1 _ C1 HR2.out ht2
                have HC2 := Lib.hid (And.intro hcp hcs)
                have HR3 := Lib.hid hr3
                clear hcp hcs hr3
                go_wp2
                all_goals
                  go_end0
                  exact ⟨rfl, HT.out.fin C1 C2 _ HC1.out.1 HC1.out.2 HC2.out.1 HC2.out.2 HR3.out⟩
        · have HR1 := Lib.hid (HT.out.r1 _ HH.out ht0)
          by_cases ht1 : a < i ∧ i < mid
          · obtain ⟨hp1, hq1⟩ := ht1
            go_wp2_with fail
            all_goals
              refine (HT.out.l0 _ HR1.out hp1 hq1).mono ?_
              rintro e w2 ⟨rfl, C1, hcp, hcs, hr2⟩
              have HC1 := Lib.hid (And.intro hcp hcs)
              have HR2 := Lib.hid hr2
              clear hcp hcs hr2
              by_cases ht2 : mid < en ∧ en < b
              · obtain ⟨hp2, hq2⟩ := ht2
                go_wp2_with fail
                all_goals
                  refine (HT.out.q0 _ C1 HC1.out.1 HR2.out hp2 hq2).mono ?_
                  rintro e w3 ⟨rfl, C2, hcp, hcs, hr3⟩
                  have HC2 := Lib.hid (And.intro hcp hcs)
                  have HR3 := Lib.hid hr3
                  clear hcp hcs hr3
                  go_wp2
                  all_goals
                    go_end0
                    exact ⟨rfl, HT.out.fin C1 C2 _ HC1.out.1 HC1.out.2 HC2.out.1 HC2.out.2 HR3.out⟩
              · obtain ⟨C2, hcp, hcs, hr3⟩ := HT.out.q1 _ C1 HR2.out ht2
                have HC2 := Lib.hid (And.intro hcp hcs)
                have HR3 := Lib.hid hr3
                clear hcp hcs hr3
                go_wp2
                all_goals
                  go_end0
                  exact ⟨rfl, HT.out.fin C1 C2 _ HC1.out.1 HC1.out.2 HC2.out.1 HC2.out.2 HR3.out⟩
          · obtain ⟨C1, hcp, hcs, hr2⟩ := HT.out.l1 _ HR1.out ht1
            have HC1 := Lib.hid (And.intro hcp hcs)
            have HR2 := Lib.hid hr2
            clear hcp hcs hr2
            by_cases ht2 : mid < en ∧ en < b
            · obtain ⟨hp2, hq2⟩ := ht2
              go_wp2_with fail
              all_goals
                refine (HT.out.q0 _ C1 HC1.out.1 HR2.out hp2 hq2).mono ?_
                rintro e w3 ⟨rfl, C2, hcp, hcs, hr3⟩
                have HC2 := Lib.hid (And.intro hcp hcs)
                have HR3 := Lib.hid hr3
                clear hcp hcs hr3
                go_wp2
                all_goals
                  go_end0
                  exact ⟨rfl, HT.out.fin C1 C2 _ HC1.out.1 HC1.out.2 HC2.out.1 HC2.out.2 HR3.out⟩
            · obtain ⟨C2, hcp, hcs, hr3⟩ := HT.out.q1 _ C1 HR2.out ht2
              have HC2 := Lib.hid (And.intro hcp hcs)
              have HR3 := Lib.hid hr3
              clear hcp hcs hr3
              go_wp2
              all_goals
                go_end0
                exact ⟨rfl, HT.out.fin C1 C2 _ HC1.out.1 HC1.out.2 HC2.out.1 HC2.out.2 HR3.out⟩

  · intro hc hs0e hr0e
    clear start hs0 hr0 hmid
    go_enter Try.func48, Try.ntmps48
    go_wp2
    clear hmide
    go_loopw [20, 21] (fun s t wr => ∃ i j : Nat, s = .int .i64 i ∧ t = .int .i64 j ∧ s0 ≤ i ∧ i ≤ j ∧ j ≤ r0 ∧ (i = s0 ∨ ∃ (p : i - a - 1 < A.length) (q : mid - i < B.length), key A[i - a - 1] ≤ key B[mid - i]) ∧ (j = r0 ∨ ∃ (p : j - a < A.length) (q : mid - 1 - j < B.length), key B[mid - 1 - j] < key A[j - a]) ∧ RowAt blk (X ++ A ++ B ++ Y) w0 wr) (fun s t _ => (intOf t).toNat - (intOf s).toNat)
    case atStart => exact ⟨s0, r0, by first | rfl | go_num, by first | rfl | go_num, Nat.le_refl _, hsr0, Nat.le_refl _, .inl rfl, .inl rfl, HH.out⟩
    case round =>
      obtain ⟨i, j, rfl, rfl, hmi, hij, hjb, hi1, hj1, hr⟩ := hrel
      clear HH
      have HH := Lib.hid hr
      clear hr
      have HI : Hid ((i = s0 ∨ ∃ (p : i - a - 1 < A.length) (q : mid - i < B.length), key A[i - a - 1] ≤ key B[mid - i]) ∧ (j = r0 ∨ ∃ (p : j - a < A.length) (q : mid - 1 - j < B.length), key B[mid - 1 - j] < key A[j - a])) := ⟨hi1, hj1⟩
      clear hi1 hj1
      by_cases hlt : i < j
      · obtain ⟨q, hq⟩ : ∃ q, (i + j) / 2 = q := ⟨_, rfl⟩
        have hqi : i ≤ q := by omega
        have hqj : q < j := by omega
        have hqe : ((i : Int) + (j : Int)) / 2 = (q : Int) := by omega
        clear hq
        have hqA : q - a < A.length := by have := HX.out; omega
        have hqB : mid - 1 - q < B.length := by have := HX.out; omega
        obtain ⟨x, hx⟩ : ∃ x, A[q - a] = x := ⟨_, rfl⟩
        obtain ⟨y, hy⟩ : ∃ y, B[mid - 1 - q] = y := ⟨_, rfl⟩
        obtain ⟨z, hz⟩ : ∃ z, z = mid + m - 1 - q := ⟨_, rfl⟩
        have hze : (mid : Int) + (m : Int) - 1 - (q : Int) = (z : Int) := by omega
        have hzN : z < N := by omega
        have hqN : q < N := by omega
        have cx := HH.out.c (i := q) (x := x) (by
          obtain ⟨g1, g2, g3, g4, g5⟩ := HX.out
          have := get_at X A (B ++ Y) hqA (i := q) (by omega)
          rw [hx] at this
          simpa using this)
        have cy := HH.out.c (i := z) (x := y) (by
          obtain ⟨g1, g2, g3, g4, g5⟩ := HX.out
          have := get_at (X ++ A) B Y hqB (i := z) (by simp; omega)
          rw [hy] at this
          exact this)
        clear hz
        have hxM : x < M := by rw [← hx]; exact HA.out.1 _ (List.getElem_mem hqA)
        have hyM : y < M := by rw [← hy]; exact HA.out.2.1 _ (List.getElem_mem hqB)
        have hC := fun k => HC.out.lt HH.out.kept hyM hxM k
        have HY := Lib.hid (And.intro hx hy)
        clear hx hy
        by_cases hk : key y < key x
        · have hd := cmpI_neg hk
          obtain ⟨cv, hcv⟩ : ∃ cv, cmpI (key y) (key x) = cv := ⟨_, rfl⟩
          rw [hcv] at hd
          simp only [hcv] at hC
          have hcv0 : cv < 0 := of_decide_eq_true hd
          have HK := Lib.hid hk
          clear hcv hk
          go_wp2_with fail
          clear hqe
          go_quiet ((go_at_call 21; exact hC _))
          clear hze
          go_wp2
          go_roundw
          case rel =>
            refine ⟨i, q, rfl, by go_num, by omega, by omega, by omega, HI.out.1, .inr ⟨hqA, hqB, ?_⟩, HH.out.drewN _⟩
            rw [HY.out.1, HY.out.2]
            exact HK.out
          case measure => simp [intOf]; omega
        · have hd := cmpI_not hk
          obtain ⟨cv, hcv⟩ : ∃ cv, cmpI (key y) (key x) = cv := ⟨_, rfl⟩
          rw [hcv] at hd
          simp only [hcv] at hC
          have hcv0 : ¬ cv < 0 := of_decide_eq_false hd
          have HK : Hid (key x ≤ key y) := Int.not_lt.1 hk
          clear hcv hk
          go_wp2_with fail
          clear hqe
          go_quiet ((go_at_call 21; exact hC _))
          clear hze
          go_wp2
          go_roundw
          case rel =>
            refine ⟨q + 1, j, by go_num, rfl, by omega, by omega, by omega, .inr ⟨by omega, by omega, ?_⟩, HI.out.2, HH.out.drewN _⟩
            have e1 : q + 1 - a - 1 = q - a := by omega
            have e2 : mid - (q + 1) = mid - 1 - q := by omega
            simp only [e1, e2, HY.out.1, HY.out.2]
            exact HK.out
          case measure => simp [intOf]; omega
      · obtain rfl : i = j := by omega

        obtain ⟨en, hen⟩ : ∃ q, q = mid + m - i := ⟨_, rfl⟩
        have hene : (mid : Int) + (m : Int) - (i : Int) = (en : Int) := by omega
        have HT := Lib.hid (sym_tail key bl blk cap N M w0 f IH.out X A B Y a m b mid i en s0 r0 HX.out hl HA.out hma hmb2 HSR.out hmi hjb has0 hr0m hr0mid hs0b (by omega) HI.out)
        generalize A.take (i - a) = A1 at HT
        generalize B.take (mid - i) = B1 at HT
        generalize A.drop (i - a) = A2 at HT
        generalize B.drop (mid - i) = B2 at HT
        have hen1 : i ≤ m := by omega
        have hen2 : m ≤ en := by omega
        have hen3 : en ≤ b := by omega
        clear hen HI HMid
        by_cases ht0 : i < m ∧ m < en
        · obtain ⟨hp0, hq0⟩ := ht0
          go_wp2_with fail
          all_goals
            refine (HT.out.r0 _ HH.out hp0 hq0).mono ?_
            rintro e w1 ⟨rfl, hr1⟩
            have HR1 := Lib.hid hr1
            clear hr1
            by_cases ht1 : a < i ∧ i < mid
            · obtain ⟨hp1, hq1⟩ := ht1
              go_wp2_with fail
              all_goals
                refine (HT.out.l0 _ HR1.out hp1 hq1).mono ?_
                rintro e w2 ⟨rfl, C1, hcp, hcs, hr2⟩
                have HC1 := Lib.hid (And.intro hcp hcs)
                have HR2 := Lib.hid hr2
                clear hcp hcs hr2
                by_cases ht2 : mid < en ∧ en < b
                · obtain ⟨hp2, hq2⟩ := ht2
                  go_wp2_with fail
                  all_goals
                    refine (HT.out.q0 _ C1 HC1.out.1 HR2.out hp2 hq2).mono ?_
                    rintro e w3 ⟨rfl, C2, hcp, hcs, hr3⟩
                    have HC2 := Lib.hid (And.intro hcp hcs)
                    have HR3 := Lib.hid hr3
                    clear hcp hcs hr3
                    go_wp2
                    all_goals
                      go_end0
                      exact ⟨rfl, HT.out.fin C1 C2 _ HC1.out.1 HC1.out.2 HC2.out.1 HC2.out.2 HR3.out⟩
                · obtain ⟨C2, hcp, hcs, hr3⟩ := HT.out.q1 _ C1 HR2.out ht2
                  have HC2 := Lib.hid (And.intro hcp hcs)
                  have HR3 := Lib.hid hr3
                  clear hcp hcs hr3
                  go_wp2
                  all_goals
                    go_end0
                    exact ⟨rfl, HT.out.fin C1 C2 _ HC1.out.1 HC1.out.2 HC2.out.1 HC2.out.2 HR3.out⟩
            · obtain ⟨C1, hcp, hcs, hr2⟩ := HT.out.l1 _ HR1.out ht1
              have HC1 := Lib.hid (And.intro hcp hcs)
              have HR2 := Lib.hid hr2
              clear hcp hcs hr2
              by_cases ht2 : mid < en ∧ en < b
              · obtain ⟨hp2, hq2⟩ := ht2
                go_wp2_with fail
                all_goals
                  refine (HT.out.q0 _ C1 HC1.out.1 HR2.out hp2 hq2).mono ?_
                  rintro e w3 ⟨rfl, C2, hcp, hcs, hr3⟩
                  have HC2 := Lib.hid (And.intro hcp hcs)
                  have HR3 := Lib.hid hr3
                  clear hcp hcs hr3
                  go_wp2
                  all_goals
                    go_end0
                    exact ⟨rfl, HT.out.fin C1 C2 _ HC1.out.1 HC1.out.2 HC2.out.1 HC2.out.2 HR3.out⟩
              · obtain ⟨C2, hcp, hcs, hr3⟩ := HT.out.q1 _ C1 HR2.out ht2
                have HC2 := Lib.hid (And.intro hcp hcs)
                have HR3 := Lib.hid hr3
                clear hcp hcs hr3
                go_wp2
                all_goals
                  go_end0
                  exact ⟨rfl, HT.out.fin C1 C2 _ HC1.out.1 HC1.out.2 HC2.out.1 HC2.out.2 HR3.out⟩
        · have HR1 := Lib.hid (HT.out.r1 _ HH.out ht0)
          by_cases ht1 : a < i ∧ i < mid
          · obtain ⟨hp1, hq1⟩ := ht1
            go_wp2_with fail
            all_goals
              refine (HT.out.l0 _ HR1.out hp1 hq1).mono ?_
              rintro e w2 ⟨rfl, C1, hcp, hcs, hr2⟩
              have HC1 := Lib.hid (And.intro hcp hcs)
              have HR2 := Lib.hid hr2
              clear hcp hcs hr2
              by_cases ht2 : mid < en ∧ en < b
              · obtain ⟨hp2, hq2⟩ := ht2
                go_wp2_with fail
                all_goals
                  refine (HT.out.q0 _ C1 HC1.out.1 HR2.out hp2 hq2).mono ?_
                  rintro e w3 ⟨rfl, C2, hcp, hcs, hr3⟩
                  have HC2 := Lib.hid (And.intro hcp hcs)
                  have HR3 := Lib.hid hr3
                  clear hcp hcs hr3
                  go_wp2
                  all_goals
                    go_end0
                    exact ⟨rfl, HT.out.fin C1 C2 _ HC1.out.1 HC1.out.2 HC2.out.1 HC2.out.2 HR3.out⟩
              · obtain ⟨C2, hcp, hcs, hr3⟩ := HT.out.q1 _ C1 HR2.out ht2
                have HC2 := Lib.hid (And.intro hcp hcs)
                have HR3 := Lib.hid hr3
                clear hcp hcs hr3
                go_wp2
                all_goals
                  go_end0
                  exact ⟨rfl, HT.out.fin C1 C2 _ HC1.out.1 HC1.out.2 HC2.out.1 HC2.out.2 HR3.out⟩
          · obtain ⟨C1, hcp, hcs, hr2⟩ := HT.out.l1 _ HR1.out ht1
            have HC1 := Lib.hid (And.intro hcp hcs)
            have HR2 := Lib.hid hr2
            clear hcp hcs hr2
            by_cases ht2 : mid < en ∧ en < b
            · obtain ⟨hp2, hq2⟩ := ht2
              go_wp2_with fail
              all_goals
                refine (HT.out.q0 _ C1 HC1.out.1 HR2.out hp2 hq2).mono ?_
                rintro e w3 ⟨rfl, C2, hcp, hcs, hr3⟩
                have HC2 := Lib.hid (And.intro hcp hcs)
                have HR3 := Lib.hid hr3
                clear hcp hcs hr3
                go_wp2
                all_goals
                  go_end0
                  exact ⟨rfl, HT.out.fin C1 C2 _ HC1.out.1 HC1.out.2 HC2.out.1 HC2.out.2 HR3.out⟩
            · obtain ⟨C2, hcp, hcs, hr3⟩ := HT.out.q1 _ C1 HR2.out ht2
              have HC2 := Lib.hid (And.intro hcp hcs)
              have HR3 := Lib.hid hr3
              clear hcp hcs hr3
              go_wp2
              all_goals
                go_end0
                exact ⟨rfl, HT.out.fin C1 C2 _ HC1.out.1 HC1.out.2 HC2.out.1 HC2.out.2 HR3.out⟩
end Go.Proofs.Ytmnpefpglpabmaa

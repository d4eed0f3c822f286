/-
  slices.SortStableFunc at the program's comparison: the symmetric merge, where one row has one place.
-/
import Derived.Test.YtmnpefpglpabmaaQIns
namespace Go.Proofs.Ytmnpefpglpabmaa
open Go.RowKit

def SymPost (key : Nat → Int) (blk : Nat) (X A B Y : List Nat) (w0 : World) (e : Ending) (w' : World) : Prop :=
  e = .returned (.tuple #[]) ∧ ∃ C, C.Perm (A ++ B) ∧ Srt key C ∧ RowAt blk (X ++ C ++ Y) w0 w'
theorem get_at (X A Y : List Nat) {k i : Nat} (h : k < A.length) (hi : i = X.length + k) : (X ++ A ++ Y)[i]? = some A[k] := by
  subst hi
  rw [List.append_assoc, List.getElem?_append_right (by omega), show X.length + k - X.length = k by omega, List.getElem?_append_left h, List.getElem?_eq_getElem h]

set_option maxHeartbeats 1000000 in
set_option maxRecDepth 100000 in
theorem sym_ahead (key : Nat → Int) (bl blk cap N M : Nat) (X B Y : List Nat) (x a m b : Nat) (w0 w : World) (HC : Hid (CmpOk key M blk bl w0)) (hxM : x < M) (hM : ∀ y ∈ B, y < M) (ha : a = X.length) (hm : m = a + 1) (hb : b = m + B.length) (hN : N = b + Y.length) (hl : N ≤ 1000)
    (hB : Srt key B) (hX : ∀ y ∈ B, x < y) (h : RowAt blk (X ++ [x] ++ B ++ Y) w0 w) :
    Calls Try.prog 48 #[.slice (some ⟨blk, 0, none⟩) N cap, .int .i64 a, .int .i64 m, .int .i64 b, .func (.func 21) #[] #[.pointer (some ⟨bl, 0, none⟩)]] w (SymPost key blk X [x] B Y w0) := by
  have HH := Lib.hid h
  clear h
  have hab : a < m := by omega
  have hmb : m ≤ b := by omega
  have hbN : b ≤ N := by omega
  have h1 : (((m : Int) - (a : Int)) == 1) = true := by rw [beq_iff_eq]; omega
  have HX : Hid (a = X.length ∧ m = a + 1 ∧ b = m + B.length ∧ N = b + Y.length) := ⟨ha, hm, hb, hN⟩
  have HB := Lib.hid (And.intro hM (And.intro hB hX))
  clear ha hm hb hN hB hX hM
  go_enter Try.func48, Try.ntmps48
  go_wp2
  go_loopw [10, 11] (fun s t wr => ∃ i j : Nat, s = .int .i64 i ∧ t = .int .i64 j ∧ m ≤ i ∧ i ≤ j ∧ j ≤ b ∧ (i = m ∨ ∃ q : i - m - 1 < B.length, key B[i - m - 1] < key x) ∧ (j = b ∨ ∃ q : j - m < B.length, key x ≤ key B[j - m]) ∧ RowAt blk (X ++ [x] ++ B ++ Y) w0 wr) (fun s t _ => (intOf t).toNat - (intOf s).toNat)
  case atStart => exact ⟨m, b, rfl, rfl, Nat.le_refl _, hmb, Nat.le_refl _, .inl rfl, .inl rfl, HH.out⟩
  case round =>
    obtain ⟨i, j, rfl, rfl, hmi, hij, hjb, hi1, hj1, hr⟩ := hrel
    clear HH
    have HH := Lib.hid hr
    clear hr
    have HI : Hid ((i = m ∨ ∃ q : i - m - 1 < B.length, key B[i - m - 1] < key x) ∧ (j = b ∨ ∃ q : j - m < B.length, key x ≤ key B[j - m])) := ⟨hi1, hj1⟩
    clear hi1 hj1
    by_cases hlt : i < j
    · obtain ⟨q, hq⟩ : ∃ q, (i + j) / 2 = q := ⟨_, rfl⟩
      have hqi : i ≤ q := by omega
      have hqj : q < j := by omega
      have hqe : ((i : Int) + (j : Int)) / 2 = (q : Int) := by omega
      have hqB : q - m < B.length := by have := HX.out; omega
      clear hq
      obtain ⟨y, hy⟩ : ∃ y, B[q - m] = y := ⟨_, rfl⟩
      have cy := HH.out.c (i := q) (x := y) (by
        obtain ⟨g1, g2, g3, g4⟩ := HX.out
        have := get_at (X ++ [x]) B Y hqB (i := q) (by simp; omega)
        rw [hy] at this
        exact this)
      have cx := HH.out.c (i := a) (x := x) (by rw [HX.out.1]; simp)
      have hqN : q < N := by omega
      have hyM : y < M := by rw [← hy]; exact HB.out.1 _ (List.getElem_mem hqB)
      have hC := fun k => HC.out.lt HH.out.kept hyM hxM k
      have HY := Lib.hid hy
      clear hy
      by_cases hk : key y < key x
      · have hd := cmpI_neg hk
        obtain ⟨cv, hcv⟩ : ∃ cv, cmpI (key y) (key x) = cv := ⟨_, rfl⟩
        rw [hcv] at hd
        simp only [hcv] at hC
        have hcv0 : cv < 0 := of_decide_eq_true hd
        have HK := Lib.hid hk
        clear hcv hk
        go_wp2_with fail
        clear hqe
        go_quiet ((go_at_call 21; exact hC _))
        go_wp2
        go_roundw
        case rel =>
          refine ⟨q + 1, j, by go_num, rfl, by omega, by omega, by omega, .inr ⟨by omega, ?_⟩, HI.out.2, HH.out.drewN _⟩
          have : q + 1 - m - 1 = q - m := by omega
          simp only [this, HY.out]
          exact HK.out
        case measure => simp [intOf]; omega
      · have hd := cmpI_not hk
        obtain ⟨cv, hcv⟩ : ∃ cv, cmpI (key y) (key x) = cv := ⟨_, rfl⟩
        rw [hcv] at hd
        simp only [hcv] at hC
        have hcv0 : ¬ cv < 0 := of_decide_eq_false hd
        have HK : Hid (key x ≤ key y) := Int.not_lt.1 hk
        clear hcv hk
        go_wp2_with fail
        clear hqe
        go_quiet ((go_at_call 21; exact hC _))
        go_wp2
        go_roundw
        case rel =>
          refine ⟨i, q, rfl, by go_num, by omega, by omega, by omega, HI.out.1, .inr ⟨hqB, ?_⟩, HH.out.drewN _⟩
          simp only [HY.out]
          exact HK.out
        case measure => simp [intOf]; omega
    · obtain rfl : i = j := by omega
      have HS : Hid (Srt key (B.take (i - m) ++ x :: B.drop (i - m)) ∧ (B.take (i - m) ++ x :: B.drop (i - m)).Perm (x :: B)) := by
        obtain ⟨g1, g2, g3, g4⟩ := HX.out
        refine one_ahead HB.out.2.1 HB.out.2.2 ?_ ?_
        · rcases HI.out.1 with h | h
          · exact .inl (by omega)
          · exact .inr h
        · rcases HI.out.2 with h | h
          · exact .inl (by omega)
          · exact .inr (h.imp fun _ => Int.not_lt.2)
      obtain ⟨B1, hB1⟩ : ∃ B1, B.take (i - m) = B1 := ⟨_, rfl⟩
      obtain ⟨B2, hB2⟩ : ∃ B2, B.drop (i - m) = B2 := ⟨_, rfl⟩
      rw [hB1, hB2] at HS
      have HL : Hid (B1.length = i - m ∧ RowAt blk (X ++ [x] ++ (B1 ++ B2) ++ Y) w0 wr) := by
        obtain ⟨g1, g2, g3, g4⟩ := HX.out
        refine ⟨by rw [← hB1]; simp; omega, ?_⟩
        rw [← hB1, ← hB2, List.take_append_drop]
        exact HH.out
      clear hB1 hB2 HI HH
      go_wp2
      go_loopw [13] (fun s wr => ∃ (k : Nat), s = .int .i64 k ∧ a ≤ k ∧ k ≤ i - 1 ∧ RowAt blk (X ++ B1.take (k - a) ++ x :: (B1.drop (k - a) ++ B2 ++ Y)) w0 wr) (fun s _ => i - (intOf s).toNat)
      case atStart => exact ⟨a, rfl, Nat.le_refl _, by omega, by simpa using HL.out.2⟩
      case round =>
        obtain ⟨k, rfl, hak, hki, hr⟩ := hrel
        by_cases hlt2 : k < i - 1
        · have hkB : k - a < B1.length := by have := HL.out.1; have := HX.out; omega
          obtain ⟨y, hy⟩ : ∃ y, B1[k - a] = y := ⟨_, rfl⟩
          have e1 : X ++ B1.take (k - a) ++ x :: (B1.drop (k - a) ++ B2 ++ Y) = (X ++ B1.take (k - a)) ++ x :: ([] ++ y :: (B1.drop (k - a + 1) ++ B2 ++ Y)) := by
            rw [mid_cons hkB, hy]; simp
          have e2 : X ++ B1.take (k + 1 - a) ++ x :: (B1.drop (k + 1 - a) ++ B2 ++ Y) = (X ++ B1.take (k - a)) ++ y :: ([] ++ x :: (B1.drop (k - a + 1) ++ B2 ++ Y)) := by
            rw [show k + 1 - a = k - a + 1 by omega, take_app hkB, hy]; simp
          have hi1 : k = (X ++ B1.take (k - a)).length := by have := HX.out; simp; omega
          have hj1 : k + 1 = (X ++ B1.take (k - a)).length + 1 + ([] : List Nat).length := by simp only [List.length_nil]; omega
          rw [e1] at hr
          have c1 := hr.c (i := k) (x := x) (by conv => lhs; arg 2; rw [hi1]
                                                exact get_one _ _ _ _ _)
          have c2 := hr.c (i := k + 1) (x := y) (by rw [hj1]; exact get_two _ _ _ _ _)
          have f1 := hr.f (i := k) (x := x) (by conv => lhs; arg 2; rw [hi1]
                                                exact get_one _ _ _ _ _)
          have f2 := hr.f (i := k + 1) (x := y) (by rw [hj1]; exact get_two _ _ _ _ _)
          have HS4 : Hid (RowAt blk (X ++ B1.take (k + 1 - a) ++ x :: (B1.drop (k + 1 - a) ++ B2 ++ Y)) w0 ((wr.setCell ⟨blk, k, none⟩ (.int .i64 (y : Int))).setCell ⟨blk, k + 1, none⟩ (.int .i64 (x : Int))).drew) := by
            have := hr.swap hi1 hj1
            rw [← e2] at this
            exact this
          have c3 : (wr.setCell ⟨blk, k, none⟩ (.int .i64 (y : Int))).cell? ⟨blk, k + 1, none⟩ = some (.int .i64 (y : Int)) := by
            rw [World.cell?_setCell_other _ _ _ _ (by intro e'; simp only [Addr.mk.injEq] at e'; omega)]; exact c2
          clear hr e1 e2 hi1 hj1 hy hkB
          have hkz : (k : Int) < (i : Int) - 1 := by omega
          go_wp2_with fail
          go_big_region
          clear c1 c2 c3 f1 f2
          generalize ((wr.setCell ⟨blk, k, none⟩ (.int .i64 (y : Int))).setCell ⟨blk, k + 1, none⟩ (.int .i64 (x : Int))).drew = w3 at HS4 ⊢
          go_wp2
          go_roundw
          case rel => exact ⟨k + 1, by go_num, by omega, by omega, HS4.out⟩
          case measure => simp [intOf]; omega
        · have HF : Hid (RowAt blk (X ++ (B1 ++ x :: B2) ++ Y) w0 wr) := by
            obtain ⟨g1, g2, g3, g4⟩ := HX.out
            have := HL.out.1
            rw [List.take_of_length_le (by omega), List.drop_eq_nil_of_le (by omega)] at hr
            show RowAt blk (X ++ (B1 ++ x :: B2) ++ Y) w0 wr
            simpa using hr
          clear hr
          have hkz : ¬ (k : Int) < (i : Int) - 1 := by omega
          go_wp2
          refine bodyPost_ret (results_none rfl _ _ _) rfl ?_
          exact ⟨rfl, _, HS.out.2, HS.out.1, HF.out⟩

set_option maxHeartbeats 1000000 in
set_option maxRecDepth 100000 in
theorem sym_behind (key : Nat → Int) (bl blk cap N M : Nat) (X A Y : List Nat) (y a m b : Nat) (w0 w : World) (HC : Hid (CmpOk key M blk bl w0)) (hyM : y < M) (hM : ∀ x ∈ A, x < M) (ha : a = X.length) (hm : m = a + A.length) (hb : b = m + 1) (hN : N = b + Y.length) (hl : N ≤ 1000)
    (hA2 : 2 ≤ A.length) (hA : Srt key A) (hX : ∀ x ∈ A, x < y) (h : RowAt blk (X ++ A ++ [y] ++ Y) w0 w) :
    Calls Try.prog 48 #[.slice (some ⟨blk, 0, none⟩) N cap, .int .i64 a, .int .i64 m, .int .i64 b, .func (.func 21) #[] #[.pointer (some ⟨bl, 0, none⟩)]] w (SymPost key blk X A [y] Y w0) := by
  have HH := Lib.hid h
  clear h
  have hab : a + 2 ≤ m := by omega
  have hmb : m < b := by omega
  have hbN : b ≤ N := by omega
  have h1 : (((m : Int) - (a : Int)) == 1) = false := by rw [beq_eq_false_iff_ne]; omega
  have h2 : (((b : Int) - (m : Int)) == 1) = true := by rw [beq_iff_eq]; omega
  have HX : Hid (a = X.length ∧ m = a + A.length ∧ b = m + 1 ∧ N = b + Y.length) := ⟨ha, hm, hb, hN⟩
  have HA := Lib.hid (And.intro hM (And.intro hA hX))
  clear ha hm hb hN hA hX hM hA2
  go_enter Try.func48, Try.ntmps48
  go_wp2
  go_loopw [14, 15] (fun s t wr => ∃ i j : Nat, s = .int .i64 i ∧ t = .int .i64 j ∧ a ≤ i ∧ i ≤ j ∧ j ≤ m ∧ (i = a ∨ ∃ q : i - a - 1 < A.length, key A[i - a - 1] ≤ key y) ∧ (j = m ∨ ∃ q : j - a < A.length, key y < key A[j - a]) ∧ RowAt blk (X ++ A ++ [y] ++ Y) w0 wr) (fun s t _ => (intOf t).toNat - (intOf s).toNat)
  case atStart => exact ⟨a, m, rfl, rfl, Nat.le_refl _, by omega, Nat.le_refl _, .inl rfl, .inl rfl, HH.out⟩
  case round =>
    obtain ⟨i, j, rfl, rfl, hmi, hij, hjb, hi1, hj1, hr⟩ := hrel
    clear HH
    have HH := Lib.hid hr
    clear hr
    have HI : Hid ((i = a ∨ ∃ q : i - a - 1 < A.length, key A[i - a - 1] ≤ key y) ∧ (j = m ∨ ∃ q : j - a < A.length, key y < key A[j - a])) := ⟨hi1, hj1⟩
    clear hi1 hj1
    by_cases hlt : i < j
    · obtain ⟨q, hq⟩ : ∃ q, (i + j) / 2 = q := ⟨_, rfl⟩
      have hqi : i ≤ q := by omega
      have hqj : q < j := by omega
      have hqe : ((i : Int) + (j : Int)) / 2 = (q : Int) := by omega
      have hqA : q - a < A.length := by have := HX.out; omega
      clear hq
      obtain ⟨x, hx⟩ : ∃ x, A[q - a] = x := ⟨_, rfl⟩
      have cx := HH.out.c (i := q) (x := x) (by
        obtain ⟨g1, g2, g3, g4⟩ := HX.out
        have := get_at X A ([y] ++ Y) hqA (i := q) (by omega)
        rw [hx] at this
        simpa using this)
      have cy := HH.out.c (i := m) (x := y) (by rw [HX.out.2.1, HX.out.1]; simp)
      have hqN : q < N := by omega
      have hxM : x < M := by rw [← hx]; exact HA.out.1 _ (List.getElem_mem hqA)
      have hC := fun k => HC.out.lt HH.out.kept hyM hxM k
      have HY := Lib.hid hx
      clear hx
      by_cases hk : key y < key x
      · have hd := cmpI_neg hk
        obtain ⟨cv, hcv⟩ : ∃ cv, cmpI (key y) (key x) = cv := ⟨_, rfl⟩
        rw [hcv] at hd
        simp only [hcv] at hC
        have hcv0 : cv < 0 := of_decide_eq_true hd
        have HK := Lib.hid hk
        clear hcv hk
        go_wp2_with fail
        clear hqe
        go_quiet ((go_at_call 21; exact hC _))
        go_wp2
        go_roundw
        case rel =>
          refine ⟨i, q, rfl, by go_num, by omega, by omega, by omega, HI.out.1, .inr ⟨hqA, ?_⟩, HH.out.drewN _⟩
          simp only [HY.out]
          exact HK.out
        case measure => simp [intOf]; omega
      · have hd := cmpI_not hk
        obtain ⟨cv, hcv⟩ : ∃ cv, cmpI (key y) (key x) = cv := ⟨_, rfl⟩
        rw [hcv] at hd
        simp only [hcv] at hC
        have hcv0 : ¬ cv < 0 := of_decide_eq_false hd
        have HK : Hid (key x ≤ key y) := Int.not_lt.1 hk
        clear hcv hk
        go_wp2_with fail
        clear hqe
        go_quiet ((go_at_call 21; exact hC _))
        go_wp2
        go_roundw
        case rel =>
          refine ⟨q + 1, j, by go_num, rfl, by omega, by omega, by omega, .inr ⟨by omega, ?_⟩, HI.out.2, HH.out.drewN _⟩
          have : q + 1 - a - 1 = q - a := by omega
          simp only [this, HY.out]
          exact HK.out
        case measure => simp [intOf]; omega
    · obtain rfl : i = j := by omega
      have HS : Hid (Srt key (A.take (i - a) ++ y :: A.drop (i - a)) ∧ (A.take (i - a) ++ y :: A.drop (i - a)).Perm (A ++ [y])) := by
        obtain ⟨g1, g2, g3, g4⟩ := HX.out
        refine one_behind HA.out.2.1 HA.out.2.2 ?_ ?_
        · rcases HI.out.1 with h | h
          · exact .inl (by omega)
          · exact .inr (h.imp fun _ => Int.not_lt.2)
        · rcases HI.out.2 with h | h
          · exact .inl (by omega)
          · exact .inr h
      obtain ⟨A1, hA1⟩ : ∃ A1, A.take (i - a) = A1 := ⟨_, rfl⟩
      obtain ⟨A2, hA2⟩ : ∃ A2, A.drop (i - a) = A2 := ⟨_, rfl⟩
      rw [hA1, hA2] at HS
      have HL : Hid (A1.length = i - a ∧ A2.length = m - i ∧ RowAt blk (X ++ (A1 ++ A2) ++ [y] ++ Y) w0 wr) := by
        obtain ⟨g1, g2, g3, g4⟩ := HX.out
        refine ⟨by rw [← hA1]; simp; omega, by rw [← hA2]; simp; omega, ?_⟩
        rw [← hA1, ← hA2, List.take_append_drop]
        exact HH.out
      clear hA1 hA2 HI HH
      go_wp2
      go_loopw [17] (fun s wr => ∃ (k : Nat), s = .int .i64 k ∧ i ≤ k ∧ k ≤ m ∧ RowAt blk (X ++ A1 ++ A2.take (k - i) ++ y :: (A2.drop (k - i) ++ Y)) w0 wr) (fun s _ => (intOf s).toNat)
      case atStart =>
        refine ⟨m, rfl, by omega, Nat.le_refl _, ?_⟩
        have h3 := HL.out.2.1
        rw [List.take_of_length_le (by omega), List.drop_eq_nil_of_le (by omega)]
        simpa using HL.out.2.2
      case round =>
        obtain ⟨k, rfl, hak, hki, hr⟩ := hrel
        by_cases hlt2 : i < k
        · obtain ⟨kp, hkp⟩ : ∃ q, q = k - 1 := ⟨_, rfl⟩
          obtain rfl : k = kp + 1 := by omega
          clear hkp
          have hkA : kp - i < A2.length := by have := HL.out.2.1; omega
          obtain ⟨x, hx⟩ : ∃ x, A2[kp - i] = x := ⟨_, rfl⟩
          have e1 : X ++ A1 ++ A2.take (kp + 1 - i) ++ y :: (A2.drop (kp + 1 - i) ++ Y) = (X ++ A1 ++ A2.take (kp - i)) ++ x :: ([] ++ y :: (A2.drop (kp - i + 1) ++ Y)) := by
            rw [show kp + 1 - i = kp - i + 1 by omega, take_app hkA, hx]; simp
          have e2 : X ++ A1 ++ A2.take (kp - i) ++ y :: (A2.drop (kp - i) ++ Y) = (X ++ A1 ++ A2.take (kp - i)) ++ y :: ([] ++ x :: (A2.drop (kp - i + 1) ++ Y)) := by
            rw [mid_cons hkA, hx]; simp
          have hi1 : kp = (X ++ A1 ++ A2.take (kp - i)).length := by have := HX.out; have := HL.out; simp; omega
          have hj1 : kp + 1 = (X ++ A1 ++ A2.take (kp - i)).length + 1 + ([] : List Nat).length := by simp only [List.length_nil]; omega
          rw [e1] at hr
          have c1 := hr.c (i := kp) (x := x) (by conv => lhs; arg 2; rw [hi1]
                                                 exact get_one _ _ _ _ _)
          have c2 := hr.c (i := kp + 1) (x := y) (by rw [hj1]; exact get_two _ _ _ _ _)
          have f1 := hr.f (i := kp) (x := x) (by conv => lhs; arg 2; rw [hi1]
                                                 exact get_one _ _ _ _ _)
          have f2 := hr.f (i := kp + 1) (x := y) (by rw [hj1]; exact get_two _ _ _ _ _)
          have HS4 : Hid (RowAt blk (X ++ A1 ++ A2.take (kp - i) ++ y :: (A2.drop (kp - i) ++ Y)) w0 ((wr.setCell ⟨blk, kp + 1, none⟩ (.int .i64 (x : Int))).setCell ⟨blk, kp, none⟩ (.int .i64 (y : Int))).drew) := by
            have := hr.swap' hi1 hj1
            rw [← e2] at this
            exact this
          have c3 : (wr.setCell ⟨blk, kp + 1, none⟩ (.int .i64 (x : Int))).cell? ⟨blk, kp, none⟩ = some (.int .i64 (x : Int)) := by
            rw [World.cell?_setCell_other _ _ _ _ (by intro e'; simp only [Addr.mk.injEq] at e'; omega)]; exact c1
          clear hr e1 e2 hi1 hj1 hx hkA
          have hkz : (i : Int) < (kp : Int) + 1 := by omega
          go_wp2_with fail
          go_big_region
          clear c1 c2 c3 f1 f2
          generalize ((wr.setCell ⟨blk, kp + 1, none⟩ (.int .i64 (x : Int))).setCell ⟨blk, kp, none⟩ (.int .i64 (y : Int))).drew = w3 at HS4 ⊢
          go_wp2
          go_roundw
          case rel => exact ⟨kp, by go_num, by omega, by omega, HS4.out⟩
          case measure => simp [intOf]
        · have HF : Hid (RowAt blk (X ++ (A1 ++ y :: A2) ++ Y) w0 wr) := by
            obtain rfl : k = i := by omega
            rw [Nat.sub_self] at hr
            show RowAt blk (X ++ (A1 ++ y :: A2) ++ Y) w0 wr
            simpa using hr
          clear hr
          go_wp2
          refine bodyPost_ret (results_none rfl _ _ _) rfl ?_
          exact ⟨rfl, _, HS.out.2, HS.out.1, HF.out⟩
end Go.Proofs.Ytmnpefpglpabmaa

/-
  In this text, one behind the other: QSym, QSym2, QStab, QTell, QEnc.
-/
import Derived.Laws.MakeOwn
import Derived.Test.YtfaieldafoeaiaaDoorG5
import Derived.Test.YtfaieldafoeaiaaDoorG4
/-
  slices.SortStableFunc at the program's comparison: the symmetric merge, where one row has one place.
-/
namespace Go.Proofs.YtfaieldafoeaiaaDoor
open Go.RowKit

def SymPost (key : Nat → Int) (blk : Nat) (X A B Y : List Nat) (w0 : World) (e : Ending) (w' : World) : Prop :=
  e = .returned (.tuple #[]) ∧ ∃ C, C.Perm (A ++ B) ∧ Srt key C ∧ RowAt blk (X ++ C ++ Y) w0 w'
theorem get_at (X A Y : List Nat) {k i : Nat} (h : k < A.length) (hi : i = X.length + k) : (X ++ A ++ Y)[i]? = some A[k] := by
  subst hi
  rw [List.append_assoc, List.getElem?_append_right (by omega), show X.length + k - X.length = k by omega, List.getElem?_append_left h, List.getElem?_eq_getElem h]

set_option maxHeartbeats 1000000 in
set_option maxRecDepth 100000 in
theorem sym_ahead (key : Nat → Int) (bl blk cap N M : Nat) (X B Y : List Nat) (x a m b : Nat) (w0 w : World) (HC : Hid (CmpOk key M blk bl w0)) (hxM : x < M) (hM : ∀ y ∈ B, y < M) (ha : a = X.length) (hm : m = a + 1) (hb : b = m + B.length) (hN : N = b + Y.length) (hl : N ≤ 1000)
    (hB : Srt key B) (hX : ∀ y ∈ B, x < y) (h : RowAt blk (X ++ [x] ++ B ++ Y) w0 w) :
    Calls Tryd.prog 81 #[.slice (some ⟨blk, 0, none⟩) N cap, .int .i64 a, .int .i64 m, .int .i64 b, .func (.func 51) #[] #[.pointer (some ⟨bl, 0, none⟩)]] w (SymPost key blk X [x] B Y w0) := by
  have HH := Lib.hid h
  clear h
  have hab : a < m := by omega
  have hmb : m ≤ b := by omega
  have hbN : b ≤ N := by omega
  have h1 : (((m : Int) - (a : Int)) == 1) = true := by rw [beq_iff_eq]; omega
  have HX : Hid (a = X.length ∧ m = a + 1 ∧ b = m + B.length ∧ N = b + Y.length) := ⟨ha, hm, hb, hN⟩
  have HB := Lib.hid (And.intro hM (And.intro hB hX))
  clear ha hm hb hN hB hX hM
  go_enter Tryd.func81, Tryd.ntmps81
  go_wp2
  go_loopw [10, 11] (fun s t wr => ∃ i j : Nat, s = .int .i64 i ∧ t = .int .i64 j ∧ m ≤ i ∧ i ≤ j ∧ j ≤ b ∧ (i = m ∨ ∃ q : i - m - 1 < B.length, key B[i - m - 1] < key x) ∧ (j = b ∨ ∃ q : j - m < B.length, key x ≤ key B[j - m]) ∧ RowAt blk (X ++ [x] ++ B ++ Y) w0 wr) (fun s t _ => (intOf t).toNat - (intOf s).toNat)
  case atStart => exact ⟨m, b, rfl, rfl, Nat.le_refl _, hmb, Nat.le_refl _, .inl rfl, .inl rfl, HH.out⟩
  case round =>
    obtain ⟨i, j, rfl, rfl, hmi, hij, hjb, hi1, hj1, hr⟩ := hrel
    clear HH
    have HH := Lib.hid hr
    clear hr
    have HI : Hid ((i = m ∨ ∃ q : i - m - 1 < B.length, key B[i - m - 1] < key x) ∧ (j = b ∨ ∃ q : j - m < B.length, key x ≤ key B[j - m])) := ⟨hi1, hj1⟩
    clear hi1 hj1
    by_cases hlt : i < j
    · obtain ⟨q, hq⟩ : ∃ q, (i + j) / 2 = q := ⟨_, rfl⟩
      have hqi : i ≤ q := by omega
      have hqj : q < j := by omega
      have hqe : ((i : Int) + (j : Int)) / 2 = (q : Int) := by omega
      have hqB : q - m < B.length := by have := HX.out; omega
      clear hq
      obtain ⟨y, hy⟩ : ∃ y, B[q - m] = y := ⟨_, rfl⟩
      have cy := HH.out.c (i := q) (x := y) (by
        obtain ⟨g1, g2, g3, g4⟩ := HX.out
        have := get_at (X ++ [x]) B Y hqB (i := q) (by simp; omega)
        rw [hy] at this
        exact this)
      have cx := HH.out.c (i := a) (x := x) (by rw [HX.out.1]; simp)
      have hqN : q < N := by omega
      have hyM : y < M := by rw [← hy]; exact HB.out.1 _ (List.getElem_mem hqB)
      have hC := fun k => HC.out.lt HH.out.kept hyM hxM k
      have HY := Lib.hid hy
      clear hy
      by_cases hk : key y < key x
      · have hd := cmpI_neg hk
        obtain ⟨cv, hcv⟩ : ∃ cv, cmpI (key y) (key x) = cv := ⟨_, rfl⟩
        rw [hcv] at hd
        simp only [hcv] at hC
        have hcv0 : cv < 0 := of_decide_eq_true hd
        have HK := Lib.hid hk
        clear hcv hk
        go_wp2_with fail
        clear hqe
        go_quiet ((go_at_call 51; exact hC _))
        go_wp2
        go_roundw
        case rel =>
          refine ⟨q + 1, j, by go_num, rfl, by omega, by omega, by omega, .inr ⟨by omega, ?_⟩, HI.out.2, HH.out.drewN _⟩
          have : q + 1 - m - 1 = q - m := by omega
          simp only [this, HY.out]
          exact HK.out
        case measure => simp [intOf]; omega
      · have hd := cmpI_not hk
        obtain ⟨cv, hcv⟩ : ∃ cv, cmpI (key y) (key x) = cv := ⟨_, rfl⟩
        rw [hcv] at hd
        simp only [hcv] at hC
        have hcv0 : ¬ cv < 0 := of_decide_eq_false hd
        have HK : Hid (key x ≤ key y) := Int.not_lt.1 hk
        clear hcv hk
        go_wp2_with fail
        clear hqe
        go_quiet ((go_at_call 51; exact hC _))
        go_wp2
        go_roundw
        case rel =>
          refine ⟨i, q, rfl, by go_num, by omega, by omega, by omega, HI.out.1, .inr ⟨hqB, ?_⟩, HH.out.drewN _⟩
          simp only [HY.out]
          exact HK.out
        case measure => simp [intOf]; omega
    · obtain rfl : i = j := by omega
      have HS : Hid (Srt key (B.take (i - m) ++ x :: B.drop (i - m)) ∧ (B.take (i - m) ++ x :: B.drop (i - m)).Perm (x :: B)) := by
        obtain ⟨g1, g2, g3, g4⟩ := HX.out
        refine one_ahead HB.out.2.1 HB.out.2.2 ?_ ?_
        · rcases HI.out.1 with h | h
          · exact .inl (by omega)
          · exact .inr h
        · rcases HI.out.2 with h | h
          · exact .inl (by omega)
          · exact .inr (h.imp fun _ => Int.not_lt.2)
      obtain ⟨B1, hB1⟩ : ∃ B1, B.take (i - m) = B1 := ⟨_, rfl⟩
      obtain ⟨B2, hB2⟩ : ∃ B2, B.drop (i - m) = B2 := ⟨_, rfl⟩
      rw [hB1, hB2] at HS
      have HL : Hid (B1.length = i - m ∧ RowAt blk (X ++ [x] ++ (B1 ++ B2) ++ Y) w0 wr) := by
        obtain ⟨g1, g2, g3, g4⟩ := HX.out
        refine ⟨by rw [← hB1]; simp; omega, ?_⟩
        rw [← hB1, ← hB2, List.take_append_drop]
        exact HH.out
      clear hB1 hB2 HI HH
      go_wp2
      go_loopw [13] (fun s wr => ∃ (k : Nat), s = .int .i64 k ∧ a ≤ k ∧ k ≤ i - 1 ∧ RowAt blk (X ++ B1.take (k - a) ++ x :: (B1.drop (k - a) ++ B2 ++ Y)) w0 wr) (fun s _ => i - (intOf s).toNat)
      case atStart => exact ⟨a, rfl, Nat.le_refl _, by omega, by simpa using HL.out.2⟩
      case round =>
        obtain ⟨k, rfl, hak, hki, hr⟩ := hrel
        by_cases hlt2 : k < i - 1
        · have hkB : k - a < B1.length := by have := HL.out.1; have := HX.out; omega
          obtain ⟨y, hy⟩ : ∃ y, B1[k - a] = y := ⟨_, rfl⟩
          have e1 : X ++ B1.take (k - a) ++ x :: (B1.drop (k - a) ++ B2 ++ Y) = (X ++ B1.take (k - a)) ++ x :: ([] ++ y :: (B1.drop (k - a + 1) ++ B2 ++ Y)) := by
            rw [mid_cons hkB, hy]; simp
          have e2 : X ++ B1.take (k + 1 - a) ++ x :: (B1.drop (k + 1 - a) ++ B2 ++ Y) = (X ++ B1.take (k - a)) ++ y :: ([] ++ x :: (B1.drop (k - a + 1) ++ B2 ++ Y)) := by
            rw [show k + 1 - a = k - a + 1 by omega, take_app hkB, hy]; simp
          have hi1 : k = (X ++ B1.take (k - a)).length := by have := HX.out; simp; omega
          have hj1 : k + 1 = (X ++ B1.take (k - a)).length + 1 + ([] : List Nat).length := by simp only [List.length_nil]; omega
          rw [e1] at hr
          have c1 := hr.c (i := k) (x := x) (by conv => lhs; arg 2; rw [hi1]
                                                exact get_one _ _ _ _ _)
          have c2 := hr.c (i := k + 1) (x := y) (by rw [hj1]; exact get_two _ _ _ _ _)
          have f1 := hr.f (i := k) (x := x) (by conv => lhs; arg 2; rw [hi1]
                                                exact get_one _ _ _ _ _)
          have f2 := hr.f (i := k + 1) (x := y) (by rw [hj1]; exact get_two _ _ _ _ _)
          have HS4 : Hid (RowAt blk (X ++ B1.take (k + 1 - a) ++ x :: (B1.drop (k + 1 - a) ++ B2 ++ Y)) w0 ((wr.setCell ⟨blk, k, none⟩ (.int .i64 (y : Int))).setCell ⟨blk, k + 1, none⟩ (.int .i64 (x : Int))).drew) := by
            have := hr.swap hi1 hj1
            rw [← e2] at this
            exact this
          have c3 : (wr.setCell ⟨blk, k, none⟩ (.int .i64 (y : Int))).cell? ⟨blk, k + 1, none⟩ = some (.int .i64 (y : Int)) := by
            rw [World.cell?_setCell_other _ _ _ _ (by intro e'; simp only [Addr.mk.injEq] at e'; omega)]; exact c2
          clear hr e1 e2 hi1 hj1 hy hkB
          have hkz : (k : Int) < (i : Int) - 1 := by omega
          go_wp2_with fail
          go_big_region
          clear c1 c2 c3 f1 f2
          generalize ((wr.setCell ⟨blk, k, none⟩ (.int .i64 (y : Int))).setCell ⟨blk, k + 1, none⟩ (.int .i64 (x : Int))).drew = w3 at HS4 ⊢
          go_wp2
          go_roundw
          case rel => exact ⟨k + 1, by go_num, by omega, by omega, HS4.out⟩
          case measure => simp [intOf]; omega
        · have HF : Hid (RowAt blk (X ++ (B1 ++ x :: B2) ++ Y) w0 wr) := by
            obtain ⟨g1, g2, g3, g4⟩ := HX.out
            have := HL.out.1
            rw [List.take_of_length_le (by omega), List.drop_eq_nil_of_le (by omega)] at hr
            show RowAt blk (X ++ (B1 ++ x :: B2) ++ Y) w0 wr
            simpa using hr
          clear hr
          have hkz : ¬ (k : Int) < (i : Int) - 1 := by omega
          go_wp2
          refine bodyPost_ret (results_none rfl _ _ _) rfl ?_
          exact ⟨rfl, _, HS.out.2, HS.out.1, HF.out⟩

set_option maxHeartbeats 1000000 in
set_option maxRecDepth 100000 in
theorem sym_behind (key : Nat → Int) (bl blk cap N M : Nat) (X A Y : List Nat) (y a m b : Nat) (w0 w : World) (HC : Hid (CmpOk key M blk bl w0)) (hyM : y < M) (hM : ∀ x ∈ A, x < M) (ha : a = X.length) (hm : m = a + A.length) (hb : b = m + 1) (hN : N = b + Y.length) (hl : N ≤ 1000)
    (hA2 : 2 ≤ A.length) (hA : Srt key A) (hX : ∀ x ∈ A, x < y) (h : RowAt blk (X ++ A ++ [y] ++ Y) w0 w) :
    Calls Tryd.prog 81 #[.slice (some ⟨blk, 0, none⟩) N cap, .int .i64 a, .int .i64 m, .int .i64 b, .func (.func 51) #[] #[.pointer (some ⟨bl, 0, none⟩)]] w (SymPost key blk X A [y] Y w0) := by
  have HH := Lib.hid h
  clear h
  have hab : a + 2 ≤ m := by omega
  have hmb : m < b := by omega
  have hbN : b ≤ N := by omega
  have h1 : (((m : Int) - (a : Int)) == 1) = false := by rw [beq_eq_false_iff_ne]; omega
  have h2 : (((b : Int) - (m : Int)) == 1) = true := by rw [beq_iff_eq]; omega
  have HX : Hid (a = X.length ∧ m = a + A.length ∧ b = m + 1 ∧ N = b + Y.length) := ⟨ha, hm, hb, hN⟩
  have HA := Lib.hid (And.intro hM (And.intro hA hX))
  clear ha hm hb hN hA hX hM hA2
  go_enter Tryd.func81, Tryd.ntmps81
  go_wp2
  go_loopw [14, 15] (fun s t wr => ∃ i j : Nat, s = .int .i64 i ∧ t = .int .i64 j ∧ a ≤ i ∧ i ≤ j ∧ j ≤ m ∧ (i = a ∨ ∃ q : i - a - 1 < A.length, key A[i - a - 1] ≤ key y) ∧ (j = m ∨ ∃ q : j - a < A.length, key y < key A[j - a]) ∧ RowAt blk (X ++ A ++ [y] ++ Y) w0 wr) (fun s t _ => (intOf t).toNat - (intOf s).toNat)
  case atStart => exact ⟨a, m, rfl, rfl, Nat.le_refl _, by omega, Nat.le_refl _, .inl rfl, .inl rfl, HH.out⟩
  case round =>
    obtain ⟨i, j, rfl, rfl, hmi, hij, hjb, hi1, hj1, hr⟩ := hrel
    clear HH
    have HH := Lib.hid hr
    clear hr
    have HI : Hid ((i = a ∨ ∃ q : i - a - 1 < A.length, key A[i - a - 1] ≤ key y) ∧ (j = m ∨ ∃ q : j - a < A.length, key y < key A[j - a])) := ⟨hi1, hj1⟩
    clear hi1 hj1
    by_cases hlt : i < j
    · obtain ⟨q, hq⟩ : ∃ q, (i + j) / 2 = q := ⟨_, rfl⟩
      have hqi : i ≤ q := by omega
      have hqj : q < j := by omega
      have hqe : ((i : Int) + (j : Int)) / 2 = (q : Int) := by omega
      have hqA : q - a < A.length := by have := HX.out; omega
      clear hq
      obtain ⟨x, hx⟩ : ∃ x, A[q - a] = x := ⟨_, rfl⟩
      have cx := HH.out.c (i := q) (x := x) (by
        obtain ⟨g1, g2, g3, g4⟩ := HX.out
        have := get_at X A ([y] ++ Y) hqA (i := q) (by omega)
        rw [hx] at this
        simpa using this)
      have cy := HH.out.c (i := m) (x := y) (by rw [HX.out.2.1, HX.out.1]; simp)
      have hqN : q < N := by omega
      have hxM : x < M := by rw [← hx]; exact HA.out.1 _ (List.getElem_mem hqA)
      have hC := fun k => HC.out.lt HH.out.kept hyM hxM k
      have HY := Lib.hid hx
      clear hx
      by_cases hk : key y < key x
      · have hd := cmpI_neg hk
        obtain ⟨cv, hcv⟩ : ∃ cv, cmpI (key y) (key x) = cv := ⟨_, rfl⟩
        rw [hcv] at hd
        simp only [hcv] at hC
        have hcv0 : cv < 0 := of_decide_eq_true hd
        have HK := Lib.hid hk
        clear hcv hk
        go_wp2_with fail
        clear hqe
        go_quiet ((go_at_call 51; exact hC _))
        go_wp2
        go_roundw
        case rel =>
          refine ⟨i, q, rfl, by go_num, by omega, by omega, by omega, HI.out.1, .inr ⟨hqA, ?_⟩, HH.out.drewN _⟩
          simp only [HY.out]
          exact HK.out
        case measure => simp [intOf]; omega
      · have hd := cmpI_not hk
        obtain ⟨cv, hcv⟩ : ∃ cv, cmpI (key y) (key x) = cv := ⟨_, rfl⟩
        rw [hcv] at hd
        simp only [hcv] at hC
        have hcv0 : ¬ cv < 0 := of_decide_eq_false hd
        have HK : Hid (key x ≤ key y) := Int.not_lt.1 hk
        clear hcv hk
        go_wp2_with fail
        clear hqe
        go_quiet ((go_at_call 51; exact hC _))
        go_wp2
        go_roundw
        case rel =>
          refine ⟨q + 1, j, by go_num, rfl, by omega, by omega, by omega, .inr ⟨by omega, ?_⟩, HI.out.2, HH.out.drewN _⟩
          have : q + 1 - a - 1 = q - a := by omega
          simp only [this, HY.out]
          exact HK.out
        case measure => simp [intOf]; omega
    · obtain rfl : i = j := by omega
      have HS : Hid (Srt key (A.take (i - a) ++ y :: A.drop (i - a)) ∧ (A.take (i - a) ++ y :: A.drop (i - a)).Perm (A ++ [y])) := by
        obtain ⟨g1, g2, g3, g4⟩ := HX.out
        refine one_behind HA.out.2.1 HA.out.2.2 ?_ ?_
        · rcases HI.out.1 with h | h
          · exact .inl (by omega)
          · exact .inr (h.imp fun _ => Int.not_lt.2)
        · rcases HI.out.2 with h | h
          · exact .inl (by omega)
          · exact .inr h
      obtain ⟨A1, hA1⟩ : ∃ A1, A.take (i - a) = A1 := ⟨_, rfl⟩
      obtain ⟨A2, hA2⟩ : ∃ A2, A.drop (i - a) = A2 := ⟨_, rfl⟩
      rw [hA1, hA2] at HS
      have HL : Hid (A1.length = i - a ∧ A2.length = m - i ∧ RowAt blk (X ++ (A1 ++ A2) ++ [y] ++ Y) w0 wr) := by
        obtain ⟨g1, g2, g3, g4⟩ := HX.out
        refine ⟨by rw [← hA1]; simp; omega, by rw [← hA2]; simp; omega, ?_⟩
        rw [← hA1, ← hA2, List.take_append_drop]
        exact HH.out
      clear hA1 hA2 HI HH
      go_wp2
      go_loopw [17] (fun s wr => ∃ (k : Nat), s = .int .i64 k ∧ i ≤ k ∧ k ≤ m ∧ RowAt blk (X ++ A1 ++ A2.take (k - i) ++ y :: (A2.drop (k - i) ++ Y)) w0 wr) (fun s _ => (intOf s).toNat)
      case atStart =>
        refine ⟨m, rfl, by omega, Nat.le_refl _, ?_⟩
        have h3 := HL.out.2.1
        rw [List.take_of_length_le (by omega), List.drop_eq_nil_of_le (by omega)]
        simpa using HL.out.2.2
      case round =>
        obtain ⟨k, rfl, hak, hki, hr⟩ := hrel
        by_cases hlt2 : i < k
        · obtain ⟨kp, hkp⟩ : ∃ q, q = k - 1 := ⟨_, rfl⟩
          obtain rfl : k = kp + 1 := by omega
          clear hkp
          have hkA : kp - i < A2.length := by have := HL.out.2.1; omega
          obtain ⟨x, hx⟩ : ∃ x, A2[kp - i] = x := ⟨_, rfl⟩
          have e1 : X ++ A1 ++ A2.take (kp + 1 - i) ++ y :: (A2.drop (kp + 1 - i) ++ Y) = (X ++ A1 ++ A2.take (kp - i)) ++ x :: ([] ++ y :: (A2.drop (kp - i + 1) ++ Y)) := by
            rw [show kp + 1 - i = kp - i + 1 by omega, take_app hkA, hx]; simp
          have e2 : X ++ A1 ++ A2.take (kp - i) ++ y :: (A2.drop (kp - i) ++ Y) = (X ++ A1 ++ A2.take (kp - i)) ++ y :: ([] ++ x :: (A2.drop (kp - i + 1) ++ Y)) := by
            rw [mid_cons hkA, hx]; simp
          have hi1 : kp = (X ++ A1 ++ A2.take (kp - i)).length := by have := HX.out; have := HL.out; simp; omega
          have hj1 : kp + 1 = (X ++ A1 ++ A2.take (kp - i)).length + 1 + ([] : List Nat).length := by simp only [List.length_nil]; omega
          rw [e1] at hr
          have c1 := hr.c (i := kp) (x := x) (by conv => lhs; arg 2; rw [hi1]
                                                 exact get_one _ _ _ _ _)
          have c2 := hr.c (i := kp + 1) (x := y) (by rw [hj1]; exact get_two _ _ _ _ _)
          have f1 := hr.f (i := kp) (x := x) (by conv => lhs; arg 2; rw [hi1]
                                                 exact get_one _ _ _ _ _)
          have f2 := hr.f (i := kp + 1) (x := y) (by rw [hj1]; exact get_two _ _ _ _ _)
          have HS4 : Hid (RowAt blk (X ++ A1 ++ A2.take (kp - i) ++ y :: (A2.drop (kp - i) ++ Y)) w0 ((wr.setCell ⟨blk, kp + 1, none⟩ (.int .i64 (x : Int))).setCell ⟨blk, kp, none⟩ (.int .i64 (y : Int))).drew) := by
            have := hr.swap' hi1 hj1
            rw [← e2] at this
            exact this
          have c3 : (wr.setCell ⟨blk, kp + 1, none⟩ (.int .i64 (x : Int))).cell? ⟨blk, kp, none⟩ = some (.int .i64 (x : Int)) := by
            rw [World.cell?_setCell_other _ _ _ _ (by intro e'; simp only [Addr.mk.injEq] at e'; omega)]; exact c1
          clear hr e1 e2 hi1 hj1 hx hkA
          have hkz : (i : Int) < (kp : Int) + 1 := by omega
          go_wp2_with fail
          go_big_region
          clear c1 c2 c3 f1 f2
          generalize ((wr.setCell ⟨blk, kp + 1, none⟩ (.int .i64 (x : Int))).setCell ⟨blk, kp, none⟩ (.int .i64 (y : Int))).drew = w3 at HS4 ⊢
          go_wp2
          go_roundw
          case rel => exact ⟨kp, by go_num, by omega, by omega, HS4.out⟩
          case measure => simp [intOf]
        · have HF : Hid (RowAt blk (X ++ (A1 ++ y :: A2) ++ Y) w0 wr) := by
            obtain rfl : k = i := by omega
            rw [Nat.sub_self] at hr
            show RowAt blk (X ++ (A1 ++ y :: A2) ++ Y) w0 wr
            simpa using hr
          clear hr
          go_wp2
          refine bodyPost_ret (results_none rfl _ _ _) rfl ?_
          exact ⟨rfl, _, HS.out.2, HS.out.1, HF.out⟩
end Go.Proofs.YtfaieldafoeaiaaDoor

/-
  slices.SortStableFunc at the program's comparison: the symmetric merge.
-/
namespace Go.Proofs.YtfaieldafoeaiaaDoor
open Go.RowKit

/-- The halves, as rows. -/
theorem row_halves {X A B Y : List Nat} {s t : Nat} : X ++ A ++ B ++ Y = (X ++ A.take s) ++ A.drop s ++ B.take t ++ (B.drop t ++ Y) := by
  have e1 : A = A.take s ++ A.drop s := (List.take_append_drop _ _).symm
  have e2 : B = B.take t ++ B.drop t := (List.take_append_drop _ _).symm
  conv => lhs; rw [e1, e2]
  simp only [List.append_assoc]

structure SymTail (key : Nat → Int) (bl blk cap N : Nat) (w0 : World) (X A B Y A1 B1 A2 B2 : List Nat) (a m b mid i en : Nat) : Prop where
  r0 : ∀ w1, RowAt blk (X ++ A ++ B ++ Y) w0 w1 → i < m → m < en → Calls Tryd.prog 85 #[.slice (some ⟨blk, 0, none⟩) N cap, .int .i64 i, .int .i64 m, .int .i64 en, .func (.func 51) #[] #[.pointer (some ⟨bl, 0, none⟩)]] w1 fun e w' => e = .returned (.tuple #[]) ∧ RowAt blk (X ++ A1 ++ B1 ++ (A2 ++ B2 ++ Y)) w0 w'
  r1 : ∀ w1, RowAt blk (X ++ A ++ B ++ Y) w0 w1 → ¬ (i < m ∧ m < en) → RowAt blk (X ++ A1 ++ B1 ++ (A2 ++ B2 ++ Y)) w0 w1
  l0 : ∀ w1, RowAt blk (X ++ A1 ++ B1 ++ (A2 ++ B2 ++ Y)) w0 w1 → a < i → i < mid → Calls Tryd.prog 81 #[.slice (some ⟨blk, 0, none⟩) N cap, .int .i64 a, .int .i64 i, .int .i64 mid, .func (.func 51) #[] #[.pointer (some ⟨bl, 0, none⟩)]] w1 (SymPost key blk X A1 B1 (A2 ++ B2 ++ Y) w0)
  l1 : ∀ w1, RowAt blk (X ++ A1 ++ B1 ++ (A2 ++ B2 ++ Y)) w0 w1 → ¬ (a < i ∧ i < mid) → ∃ C1, C1.Perm (A1 ++ B1) ∧ Srt key C1 ∧ RowAt blk (X ++ C1 ++ (A2 ++ B2 ++ Y)) w0 w1
  q0 : ∀ w1 C1, C1.Perm (A1 ++ B1) → RowAt blk (X ++ C1 ++ (A2 ++ B2 ++ Y)) w0 w1 → mid < en → en < b → Calls Tryd.prog 81 #[.slice (some ⟨blk, 0, none⟩) N cap, .int .i64 mid, .int .i64 en, .int .i64 b, .func (.func 51) #[] #[.pointer (some ⟨bl, 0, none⟩)]] w1 (SymPost key blk (X ++ C1) A2 B2 Y w0)
  q1 : ∀ w1 C1, RowAt blk (X ++ C1 ++ (A2 ++ B2 ++ Y)) w0 w1 → ¬ (mid < en ∧ en < b) → ∃ C2, C2.Perm (A2 ++ B2) ∧ Srt key C2 ∧ RowAt blk (X ++ C1 ++ C2 ++ Y) w0 w1
  fin : ∀ C1 C2 w1, C1.Perm (A1 ++ B1) → Srt key C1 → C2.Perm (A2 ++ B2) → Srt key C2 → RowAt blk (X ++ C1 ++ C2 ++ Y) w0 w1 → ∃ C, C.Perm (A ++ B) ∧ Srt key C ∧ RowAt blk (X ++ C ++ Y) w0 w1

theorem sym_tail (key : Nat → Int) (bl blk cap N M : Nat) (w0 : World) (f : Nat)
    (IH : ∀ (X A B Y : List Nat) (a m b : Nat) (w : World), A.length + B.length ≤ f → 1 ≤ A.length → 1 ≤ B.length → (∀ x ∈ A, x < M) → (∀ y ∈ B, y < M) → a = X.length → m = a + A.length → b = m + B.length → N = b + Y.length → N ≤ 1000 → Srt key A → Srt key B → (∀ x ∈ A, ∀ y ∈ B, x < y) → RowAt blk (X ++ A ++ B ++ Y) w0 w →
      Calls Tryd.prog 81 #[.slice (some ⟨blk, 0, none⟩) N cap, .int .i64 a, .int .i64 m, .int .i64 b, .func (.func 51) #[] #[.pointer (some ⟨bl, 0, none⟩)]] w (SymPost key blk X A B Y w0))
    (X A B Y : List Nat) (a m b mid i en s0 r0 : Nat) (hX : a = X.length ∧ m = a + A.length ∧ b = m + B.length ∧ N = b + Y.length ∧ A.length + B.length ≤ f + 1) (hl : N ≤ 1000)
    (hA : (∀ x ∈ A, x < M) ∧ (∀ y ∈ B, y < M) ∧ Srt key A ∧ Srt key B ∧ ∀ x ∈ A, ∀ y ∈ B, x < y) (hma : a < mid) (hmb : mid < b) (hsr : (s0 = a ∨ mid + m = b + s0) ∧ (r0 = mid ∨ r0 = m)) (h1 : s0 ≤ i) (h2 : i ≤ r0) (h3 : a ≤ s0) (h4 : r0 ≤ m) (h5 : r0 ≤ mid) (h6 : mid + m ≤ b + s0) (hen : en + i = mid + m)
    (hI : (i = s0 ∨ ∃ (p : i - a - 1 < A.length) (q : mid - i < B.length), key A[i - a - 1] ≤ key B[mid - i]) ∧ (i = r0 ∨ ∃ (p : i - a < A.length) (q : mid - 1 - i < B.length), key B[mid - 1 - i] < key A[i - a])) :
    SymTail key bl blk cap N w0 X A B Y (A.take (i - a)) (B.take (mid - i)) (A.drop (i - a)) (B.drop (mid - i)) a m b mid i en := by
  obtain ⟨g1, g2, g3, g4, g5⟩ := hX
  obtain ⟨m1, m2, sA, sB, hc⟩ := hA
  have hla1 : (A.take (i - a)).length = i - a := by simp; omega
  have hlb1 : (B.take (mid - i)).length = mid - i := by simp; omega
  have hla2 : (A.drop (i - a)).length = m - i := by simp; omega
  have hlb2 : (B.drop (mid - i)).length = b - en := by simp; omega
  have hcross : ∀ x ∈ A.take (i - a) ++ B.take (mid - i), ∀ y ∈ A.drop (i - a) ++ B.drop (mid - i), prec key x y := by
    have := sym_split (s := i - a) (h := mid - a) sA sB hc (by omega) ?_ ?_
    · rw [show mid - a - (i - a) = mid - i by omega] at this
      exact this
    · rcases hI.1 with e | ⟨p, q, hk⟩
      · rcases hsr.1 with e2 | e2
        · exact .inl (by omega)
        · exact .inr (.inl (by omega))
      · refine .inr (.inr ⟨p, by omega, ?_⟩)
        have e3 : mid - a - (i - a) = mid - i := by omega
        simp only [e3]
        exact Int.not_lt.2 hk
    · rcases hI.2 with e | ⟨p, q, hk⟩
      · rcases hsr.2 with e2 | e2
        · exact .inr (.inl (by omega))
        · exact .inl (by omega)
      · refine .inr (.inr ⟨p, by omega, ?_⟩)
        have e3 : mid - a - 1 - (i - a) = mid - 1 - i := by omega
        simp only [e3]
        exact hk
  have hperm : ∀ C1 C2 : List Nat, C1.Perm (A.take (i - a) ++ B.take (mid - i)) → C2.Perm (A.drop (i - a) ++ B.drop (mid - i)) → (C1 ++ C2).Perm (A ++ B) := by
    intro C1 C2 p1 p2
    refine (p1.append p2).trans ?_
    conv => rhs; rw [← List.take_append_drop (i - a) A, ← List.take_append_drop (mid - i) B]
    rw [List.append_assoc, List.append_assoc]
    refine List.Perm.append_left _ ?_
    rw [← List.append_assoc, ← List.append_assoc]
    exact List.Perm.append_right _ List.perm_append_comm
  have mA1 : ∀ x ∈ A.take (i - a), x ∈ A := fun x hx => List.mem_of_mem_take hx
  have mB1 : ∀ x ∈ B.take (mid - i), x ∈ B := fun x hx => List.mem_of_mem_take hx
  have mA2 : ∀ x ∈ A.drop (i - a), x ∈ A := fun x hx => List.mem_of_mem_drop hx
  have mB2 : ∀ x ∈ B.drop (mid - i), x ∈ B := fun x hx => List.mem_of_mem_drop hx
  constructor
  · intro w1 hr h7 h8
    have := rotate_any bl blk cap N (X ++ A.take (i - a)) (A.drop (i - a)) (B.take (mid - i)) (B.drop (mid - i) ++ Y) i m en w0 w1 (by rw [List.length_append]; omega) (by omega) (by omega) (by rw [List.length_append]; omega) hl (by omega) (by omega) (by rw [← row_halves]; exact hr)
    refine this.mono ?_
    rintro e w' ⟨he, hr⟩
    exact ⟨he, by simpa using hr⟩
  · intro w1 hr h7
    rw [row_halves (s := i - a) (t := mid - i)] at hr
    by_cases h8 : i < m
    · have e : B.take (mid - i) = [] := List.eq_nil_of_length_eq_zero (by omega)
      rw [e] at hr ⊢
      simpa only [List.append_assoc, List.nil_append, List.append_nil] using hr
    · have e : A.drop (i - a) = [] := List.eq_nil_of_length_eq_zero (by omega)
      rw [e] at hr ⊢
      simpa using hr
  · intro w1 hr h7 h8
    exact IH X _ _ _ a i mid w1 (by omega) (by omega) (by omega) (fun x hx => m1 x (mA1 x hx)) (fun x hx => m2 x (mB1 x hx)) g1 (by omega) (by omega) (by simp only [List.length_append]; omega) hl (srt_take sA _) (srt_take sB _) (fun x hx y hy => hc x (mA1 x hx) y (mB1 y hy)) hr
  · intro w1 hr h7
    by_cases h8 : a < i
    · have e : B.take (mid - i) = [] := List.eq_nil_of_length_eq_zero (by omega)
      refine ⟨A.take (i - a), by rw [e, List.append_nil], srt_take sA _, ?_⟩
      rw [e, List.append_nil] at hr
      exact hr
    · have e : A.take (i - a) = [] := List.eq_nil_of_length_eq_zero (by omega)
      refine ⟨B.take (mid - i), by rw [e, List.nil_append], srt_take sB _, ?_⟩
      rw [e, List.append_nil] at hr
      exact hr
  · intro w1 C1 hp hr h7 h8
    have hC1 : C1.length = mid - a := by rw [hp.length_eq, List.length_append]; omega
    exact IH (X ++ C1) _ _ _ mid en b w1 (by omega) (by omega) (by omega) (fun x hx => m1 x (mA2 x hx)) (fun x hx => m2 x (mB2 x hx)) (by rw [List.length_append]; omega) (by omega) (by omega) (by omega) hl (srt_drop sA _) (srt_drop sB _) (fun x hx y hy => hc x (mA2 x hx) y (mB2 y hy)) (by simpa using hr)
  · intro w1 C1 hr h7
    by_cases h8 : mid < en
    · have e : B.drop (mid - i) = [] := List.eq_nil_of_length_eq_zero (by omega)
      refine ⟨A.drop (i - a), by rw [e, List.append_nil], srt_drop sA _, ?_⟩
      rw [e, List.append_nil] at hr
      simpa using hr
    · have e : A.drop (i - a) = [] := List.eq_nil_of_length_eq_zero (by omega)
      refine ⟨B.drop (mid - i), by rw [e, List.nil_append], srt_drop sB _, ?_⟩
      rw [e, List.nil_append] at hr
      simpa using hr
  · intro C1 C2 w1 p1 s1 p2 s2 hr
    exact ⟨C1 ++ C2, hperm C1 C2 p1 p2, srt_append s1 s2 (fun x hx y hy => hcross x (p1.subset hx) y (p2.subset hy)), by simpa using hr⟩

set_option maxHeartbeats 4000000 in
set_option maxRecDepth 100000 in
theorem sym_more (key : Nat → Int) (bl blk cap N M : Nat) (w0 : World) (HC : Hid (CmpOk key M blk bl w0)) (f : Nat)
    (IH : Hid (∀ (X A B Y : List Nat) (a m b : Nat) (w : World), A.length + B.length ≤ f → 1 ≤ A.length → 1 ≤ B.length → (∀ x ∈ A, x < M) → (∀ y ∈ B, y < M) → a = X.length → m = a + A.length → b = m + B.length → N = b + Y.length → N ≤ 1000 → Srt key A → Srt key B → (∀ x ∈ A, ∀ y ∈ B, x < y) → RowAt blk (X ++ A ++ B ++ Y) w0 w →
      Calls Tryd.prog 81 #[.slice (some ⟨blk, 0, none⟩) N cap, .int .i64 a, .int .i64 m, .int .i64 b, .func (.func 51) #[] #[.pointer (some ⟨bl, 0, none⟩)]] w (SymPost key blk X A B Y w0)))
    (X A B Y : List Nat) (a m b : Nat) (w : World) (hf : A.length + B.length ≤ f + 1) (hA2 : 2 ≤ A.length) (hB2 : 2 ≤ B.length) (hMA : ∀ x ∈ A, x < M) (hMB : ∀ y ∈ B, y < M) (ha : a = X.length) (hm : m = a + A.length) (hb : b = m + B.length) (hN : N = b + Y.length) (hl : N ≤ 1000) (hA : Srt key A) (hB : Srt key B) (hX : ∀ x ∈ A, ∀ y ∈ B, x < y) (h : RowAt blk (X ++ A ++ B ++ Y) w0 w) :
    Calls Tryd.prog 81 #[.slice (some ⟨blk, 0, none⟩) N cap, .int .i64 a, .int .i64 m, .int .i64 b, .func (.func 51) #[] #[.pointer (some ⟨bl, 0, none⟩)]] w (SymPost key blk X A B Y w0) := by
  have HH := Lib.hid h
  clear h
  have hab : a + 2 ≤ m := by omega
  have hmb : m + 2 ≤ b := by omega
  have hbN : b ≤ N := by omega
  have h1 : (((m : Int) - (a : Int)) == 1) = false := by rw [beq_eq_false_iff_ne]; omega
  have h2 : (((b : Int) - (m : Int)) == 1) = false := by rw [beq_eq_false_iff_ne]; omega
  have HX : Hid (a = X.length ∧ m = a + A.length ∧ b = m + B.length ∧ N = b + Y.length ∧ A.length + B.length ≤ f + 1) := ⟨ha, hm, hb, hN, hf⟩
  have HA := Lib.hid (And.intro hMA (And.intro hMB (And.intro hA (And.intro hB hX))))
  clear ha hm hb hN hA hB hX hMA hMB hA2 hB2 hf
  obtain ⟨mid, hmid⟩ : ∃ q, (a + b) / 2 = q := ⟨_, rfl⟩
  have hmide : ((a : Int) + (b : Int)) / 2 = (mid : Int) := by omega
  have hma : a < mid := by omega
  have hmb2 : mid < b := by omega
  have HMid : Hid ((a + b) / 2 = mid) := hmid
  obtain ⟨s0, r0, hs0, hr0⟩ : ∃ s0 r0, s0 = (if mid < m then mid + m - b else a) ∧ r0 = (if mid < m then mid else m) := ⟨_, _, rfl, rfl⟩
  have hsr : a ≤ s0 ∧ s0 ≤ r0 ∧ r0 ≤ m ∧ r0 ≤ mid ∧ mid + m ≤ b + s0 := by
    rw [hs0, hr0]; split <;> omega
  obtain ⟨has0, hsr0, hr0m, hr0mid, hs0b⟩ := hsr
  have HSR : Hid ((s0 = a ∨ mid + m = b + s0) ∧ (r0 = mid ∨ r0 = m)) := by
    show (s0 = a ∨ mid + m = b + s0) ∧ (r0 = mid ∨ r0 = m)
    rw [hs0, hr0]; split <;> omega
  have start : ∀ (P : Prop), (mid < m → (mid : Int) + (m : Int) - (b : Int) = (s0 : Int) → r0 = mid → P) → (¬ mid < m → s0 = a → r0 = m → P) → P := by
    intro P g1 g2
    by_cases hc : mid < m
    · refine g1 hc ?_ ?_
      · rw [hs0, if_pos hc]
        have : b ≤ mid + m := by omega
        omega
      · rw [hr0, if_pos hc]
    · refine g2 hc ?_ ?_
      · rw [hs0, if_neg hc]
      · rw [hr0, if_neg hc]
  have LOOP : ∀ (Q : Prop), Q → Q := fun _ q => q
  clear LOOP
  refine start _ ?_ ?_

  · intro hc hs0e hr0e
    clear start hs0 hr0 hmid
    go_enter Tryd.func81, Tryd.ntmps81
    go_wp2
    clear hmide hs0e
    go_loopw [20, 21] (fun s t wr => ∃ i j : Nat, s = .int .i64 i ∧ t = .int .i64 j ∧ s0 ≤ i ∧ i ≤ j ∧ j ≤ r0 ∧ (i = s0 ∨ ∃ (p : i - a - 1 < A.length) (q : mid - i < B.length), key A[i - a - 1] ≤ key B[mid - i]) ∧ (j = r0 ∨ ∃ (p : j - a < A.length) (q : mid - 1 - j < B.length), key B[mid - 1 - j] < key A[j - a]) ∧ RowAt blk (X ++ A ++ B ++ Y) w0 wr) (fun s t _ => (intOf t).toNat - (intOf s).toNat)
    case atStart => exact ⟨s0, r0, by first | rfl | go_num, by first | rfl | go_num, Nat.le_refl _, hsr0, Nat.le_refl _, .inl rfl, .inl rfl, HH.out⟩
    case round =>
      obtain ⟨i, j, rfl, rfl, hmi, hij, hjb, hi1, hj1, hr⟩ := hrel
      clear HH
      have HH := Lib.hid hr
      clear hr
      have HI : Hid ((i = s0 ∨ ∃ (p : i - a - 1 < A.length) (q : mid - i < B.length), key A[i - a - 1] ≤ key B[mid - i]) ∧ (j = r0 ∨ ∃ (p : j - a < A.length) (q : mid - 1 - j < B.length), key B[mid - 1 - j] < key A[j - a])) := ⟨hi1, hj1⟩
      clear hi1 hj1
      by_cases hlt : i < j
      · obtain ⟨q, hq⟩ : ∃ q, (i + j) / 2 = q := ⟨_, rfl⟩
        have hqi : i ≤ q := by omega
        have hqj : q < j := by omega
        have hqe : ((i : Int) + (j : Int)) / 2 = (q : Int) := by omega
        clear hq
        have hqA : q - a < A.length := by have := HX.out; omega
        have hqB : mid - 1 - q < B.length := by have := HX.out; omega
        obtain ⟨x, hx⟩ : ∃ x, A[q - a] = x := ⟨_, rfl⟩
        obtain ⟨y, hy⟩ : ∃ y, B[mid - 1 - q] = y := ⟨_, rfl⟩
        obtain ⟨z, hz⟩ : ∃ z, z = mid + m - 1 - q := ⟨_, rfl⟩
        have hze : (mid : Int) + (m : Int) - 1 - (q : Int) = (z : Int) := by omega
        have hzN : z < N := by omega
        have hqN : q < N := by omega
        have cx := HH.out.c (i := q) (x := x) (by
          obtain ⟨g1, g2, g3, g4, g5⟩ := HX.out
          have := get_at X A (B ++ Y) hqA (i := q) (by omega)
          rw [hx] at this
          simpa using this)
        have cy := HH.out.c (i := z) (x := y) (by
          obtain ⟨g1, g2, g3, g4, g5⟩ := HX.out
          have := get_at (X ++ A) B Y hqB (i := z) (by simp; omega)
          rw [hy] at this
          exact this)
        clear hz
        have hxM : x < M := by rw [← hx]; exact HA.out.1 _ (List.getElem_mem hqA)
        have hyM : y < M := by rw [← hy]; exact HA.out.2.1 _ (List.getElem_mem hqB)
        have hC := fun k => HC.out.lt HH.out.kept hyM hxM k
        have HY := Lib.hid (And.intro hx hy)
        clear hx hy
        by_cases hk : key y < key x
        · have hd := cmpI_neg hk
          obtain ⟨cv, hcv⟩ : ∃ cv, cmpI (key y) (key x) = cv := ⟨_, rfl⟩
          rw [hcv] at hd
          simp only [hcv] at hC
          have hcv0 : cv < 0 := of_decide_eq_true hd
          have HK := Lib.hid hk
          clear hcv hk
          go_wp2_with fail
          clear hqe
          go_quiet ((go_at_call 51; exact hC _))
          clear hze
          go_wp2
          go_roundw
          case rel =>
            refine ⟨i, q, rfl, by go_num, by omega, by omega, by omega, HI.out.1, .inr ⟨hqA, hqB, ?_⟩, HH.out.drewN _⟩
            rw [HY.out.1, HY.out.2]
            exact HK.out
          case measure => simp [intOf]; omega
        · have hd := cmpI_not hk
          obtain ⟨cv, hcv⟩ : ∃ cv, cmpI (key y) (key x) = cv := ⟨_, rfl⟩
          rw [hcv] at hd
          simp only [hcv] at hC
          have hcv0 : ¬ cv < 0 := of_decide_eq_false hd
          have HK : Hid (key x ≤ key y) := Int.not_lt.1 hk
          clear hcv hk
          go_wp2_with fail
          clear hqe
          go_quiet ((go_at_call 51; exact hC _))
          clear hze
          go_wp2
          go_roundw
          case rel =>
            refine ⟨q + 1, j, by go_num, rfl, by omega, by omega, by omega, .inr ⟨by omega, by omega, ?_⟩, HI.out.2, HH.out.drewN _⟩
            have e1 : q + 1 - a - 1 = q - a := by omega
            have e2 : mid - (q + 1) = mid - 1 - q := by omega
            simp only [e1, e2, HY.out.1, HY.out.2]
            exact HK.out
          case measure => simp [intOf]; omega
      · obtain rfl : i = j := by omega

        obtain ⟨en, hen⟩ : ∃ q, q = mid + m - i := ⟨_, rfl⟩
        have hene : (mid : Int) + (m : Int) - (i : Int) = (en : Int) := by omega
        have HT := Lib.hid (sym_tail key bl blk cap N M w0 f IH.out X A B Y a m b mid i en s0 r0 HX.out hl HA.out hma hmb2 HSR.out hmi hjb has0 hr0m hr0mid hs0b (by omega) HI.out)
        generalize A.take (i - a) = A1 at HT
        generalize B.take (mid - i) = B1 at HT
        generalize A.drop (i - a) = A2 at HT
        generalize B.drop (mid - i) = B2 at HT
        have hen1 : i ≤ m := by omega
        have hen2 : m ≤ en := by omega
        have hen3 : en ≤ b := by omega
        clear hen HI HMid
        by_cases ht0 : i < m ∧ m < en
        · obtain ⟨hp0, hq0⟩ := ht0
          go_wp2_with fail
          all_goals
            refine (HT.out.r0 _ HH.out hp0 hq0).mono ?_
            rintro e w1 ⟨rfl, hr1⟩
            have HR1 := Lib.hid hr1
            clear hr1
            by_cases ht1 : a < i ∧ i < mid
            · obtain ⟨hp1, hq1⟩ := ht1
              go_wp2_with fail
              all_goals
                refine (HT.out.l0 _ HR1.out hp1 hq1).mono ?_
                rintro e w2 ⟨rfl, C1, hcp, hcs, hr2⟩
                have HC1 := Lib.hid (And.intro hcp hcs)
                have HR2 := Lib.hid hr2
                clear hcp hcs hr2
                by_cases ht2 : mid < en ∧ en < b
                · obtain ⟨hp2, hq2⟩ := ht2
                  go_wp2_with fail
                  all_goals
                    refine (HT.out.q0 _ C1 HC1.out.1 HR2.out hp2 hq2).mono ?_
                    rintro e w3 ⟨rfl, C2, hcp, hcs, hr3⟩
                    have HC2 := Lib.hid (And.intro hcp hcs)
                    have HR3 := Lib.hid hr3
                    clear hcp hcs hr3
                    go_wp2
                    all_goals
                      go_end0
                      exact ⟨rfl, HT.out.fin C1 C2 _ HC1.out.1 HC1.out.2 HC2.out.1 HC2.out.2 HR3.out⟩
                · obtain ⟨C2, hcp, hcs, hr3⟩ := HT.out.q1 _ C1 HR2.out ht2
                  have HC2 := Lib.hid (And.intro hcp hcs)
                  have HR3 := Lib.hid hr3
                  clear hcp hcs hr3
                  go_wp2
                  all_goals
                    go_end0
                    exact ⟨rfl, HT.out.fin C1 C2 _ HC1.out.1 HC1.out.2 HC2.out.1 HC2.out.2 HR3.out⟩
            · obtain ⟨C1, hcp, hcs, hr2⟩ := HT.out.l1 _ HR1.out ht1
              have HC1 := Lib.hid (And.intro hcp hcs)
              have HR2 := Lib.hid hr2
              clear hcp hcs hr2
              by_cases ht2 : mid < en ∧ en < b
              · obtain ⟨hp2, hq2⟩ := ht2
                go_wp2_with fail
                all_goals
                  refine (HT.out.q0 _ C1 HC1.out.1 HR2.out hp2 hq2).mono ?_
                  rintro e w3 ⟨rfl, C2, hcp, hcs, hr3⟩
                  have HC2 := Lib.hid (And.intro hcp hcs)
                  have HR3 := Lib.hid hr3
                  clear hcp hcs hr3
                  go_wp2
                  all_goals
                    go_end0
                    exact ⟨rfl, HT.out.fin C1 C2 _ HC1.out.1 HC1.out.2 HC2.out.1 HC2.out.2 HR3.out⟩
              · obtain ⟨C2, hcp, hcs, hr3⟩ := HT.out.q1 _ C1 HR2.out ht2
                have HC2 := Lib.hid (And.intro hcp hcs)
                have HR3 := Lib.hid hr3
                clear hcp hcs hr3
                go_wp2
                all_goals
                  go_end0
                  exact ⟨rfl, HT.out.fin C1 C2 _ HC1.out.1 HC1.out.2 HC2.out.1 HC2.out.2 HR3.out⟩
        · have HR1 := Lib.hid (HT.out.r1 _ HH.out ht0)
          by_cases ht1 : a < i ∧ i < mid
          · obtain ⟨hp1, hq1⟩ := ht1
            go_wp2_with fail
            all_goals
              refine (HT.out.l0 _ HR1.out hp1 hq1).mono ?_
              rintro e w2 ⟨rfl, C1, hcp, hcs, hr2⟩
              have HC1 := Lib.hid (And.intro hcp hcs)
              have HR2 := Lib.hid hr2
              clear hcp hcs hr2
              by_cases ht2 : mid < en ∧ en < b
              · obtain ⟨hp2, hq2⟩ := ht2
                go_wp2_with fail
                all_goals
                  refine (HT.out.q0 _ C1 HC1.out.1 HR2.out hp2 hq2).mono ?_
                  rintro e w3 ⟨rfl, C2, hcp, hcs, hr3⟩
                  have HC2 := Lib.hid (And.intro hcp hcs)
                  have HR3 := Lib.hid hr3
                  clear hcp hcs hr3
                  go_wp2
                  all_goals
                    go_end0
                    exact ⟨rfl, HT.out.fin C1 C2 _ HC1.out.1 HC1.out.2 HC2.out.1 HC2.out.2 HR3.out⟩
              · obtain ⟨C2, hcp, hcs, hr3⟩ := HT.out.q1 _ C1 HR2.out ht2
                have HC2 := Lib.hid (And.intro hcp hcs)
                have HR3 := Lib.hid hr3
                clear hcp hcs hr3
                go_wp2
                all_goals
                  go_end0
                  exact ⟨rfl, HT.out.fin C1 C2 _ HC1.out.1 HC1.out.2 HC2.out.1 HC2.out.2 HR3.out⟩
          · obtain ⟨C1, hcp, hcs, hr2⟩ := HT.out.l1 _ HR1.out ht1
            have HC1 := Lib.hid (And.intro hcp hcs)
            have HR2 := Lib.hid hr2
            clear hcp hcs hr2
            by_cases ht2 : mid < en ∧ en < b
            · obtain ⟨hp2, hq2⟩ := ht2
              go_wp2_with fail
              all_goals
                refine (HT.out.q0 _ C1 HC1.out.1 HR2.out hp2 hq2).mono ?_
                rintro e w3 ⟨rfl, C2, hcp, hcs, hr3⟩
                have HC2 := Lib.hid (And.intro hcp hcs)
                have HR3 := Lib.hid hr3
                clear hcp hcs hr3
                go_wp2
                all_goals
                  go_end0
                  exact ⟨rfl, HT.out.fin C1 C2 _ HC1.out.1 HC1.out.2 HC2.out.1 HC2.out.2 HR3.out⟩
            · obtain ⟨C2, hcp, hcs, hr3⟩ := HT.out.q1 _ C1 HR2.out ht2
              have HC2 := Lib.hid (And.intro hcp hcs)
              have HR3 := Lib.hid hr3
              clear hcp hcs hr3
              go_wp2
              all_goals
                go_end0
                exact ⟨rfl, HT.out.fin C1 C2 _ HC1.out.1 HC1.out.2 HC2.out.1 HC2.out.2 HR3.out⟩

  · intro hc hs0e hr0e
    clear start hs0 hr0 hmid
    go_enter Tryd.func81, Tryd.ntmps81
    go_wp2
    clear hmide
    go_loopw [20, 21] (fun s t wr => ∃ i j : Nat, s = .int .i64 i ∧ t = .int .i64 j ∧ s0 ≤ i ∧ i ≤ j ∧ j ≤ r0 ∧ (i = s0 ∨ ∃ (p : i - a - 1 < A.length) (q : mid - i < B.length), key A[i - a - 1] ≤ key B[mid - i]) ∧ (j = r0 ∨ ∃ (p : j - a < A.length) (q : mid - 1 - j < B.length), key B[mid - 1 - j] < key A[j - a]) ∧ RowAt blk (X ++ A ++ B ++ Y) w0 wr) (fun s t _ => (intOf t).toNat - (intOf s).toNat)
    case atStart => exact ⟨s0, r0, by first | rfl | go_num, by first | rfl | go_num, Nat.le_refl _, hsr0, Nat.le_refl _, .inl rfl, .inl rfl, HH.out⟩
    case round =>
      obtain ⟨i, j, rfl, rfl, hmi, hij, hjb, hi1, hj1, hr⟩ := hrel
      clear HH
      have HH := Lib.hid hr
      clear hr
      have HI : Hid ((i = s0 ∨ ∃ (p : i - a - 1 < A.length) (q : mid - i < B.length), key A[i - a - 1] ≤ key B[mid - i]) ∧ (j = r0 ∨ ∃ (p : j - a < A.length) (q : mid - 1 - j < B.length), key B[mid - 1 - j] < key A[j - a])) := ⟨hi1, hj1⟩
      clear hi1 hj1
      by_cases hlt : i < j
      · obtain ⟨q, hq⟩ : ∃ q, (i + j) / 2 = q := ⟨_, rfl⟩
        have hqi : i ≤ q := by omega
        have hqj : q < j := by omega
        have hqe : ((i : Int) + (j : Int)) / 2 = (q : Int) := by omega
        clear hq
        have hqA : q - a < A.length := by have := HX.out; omega
        have hqB : mid - 1 - q < B.length := by have := HX.out; omega
        obtain ⟨x, hx⟩ : ∃ x, A[q - a] = x := ⟨_, rfl⟩
        obtain ⟨y, hy⟩ : ∃ y, B[mid - 1 - q] = y := ⟨_, rfl⟩
        obtain ⟨z, hz⟩ : ∃ z, z = mid + m - 1 - q := ⟨_, rfl⟩
        have hze : (mid : Int) + (m : Int) - 1 - (q : Int) = (z : Int) := by omega
        have hzN : z < N := by omega
        have hqN : q < N := by omega
        have cx := HH.out.c (i := q) (x := x) (by
          obtain ⟨g1, g2, g3, g4, g5⟩ := HX.out
          have := get_at X A (B ++ Y) hqA (i := q) (by omega)
          rw [hx] at this
          simpa using this)
        have cy := HH.out.c (i := z) (x := y) (by
          obtain ⟨g1, g2, g3, g4, g5⟩ := HX.out
          have := get_at (X ++ A) B Y hqB (i := z) (by simp; omega)
          rw [hy] at this
          exact this)
        clear hz
        have hxM : x < M := by rw [← hx]; exact HA.out.1 _ (List.getElem_mem hqA)
        have hyM : y < M := by rw [← hy]; exact HA.out.2.1 _ (List.getElem_mem hqB)
        have hC := fun k => HC.out.lt HH.out.kept hyM hxM k
        have HY := Lib.hid (And.intro hx hy)
        clear hx hy
        by_cases hk : key y < key x
        · have hd := cmpI_neg hk
          obtain ⟨cv, hcv⟩ : ∃ cv, cmpI (key y) (key x) = cv := ⟨_, rfl⟩
          rw [hcv] at hd
          simp only [hcv] at hC
          have hcv0 : cv < 0 := of_decide_eq_true hd
          have HK := Lib.hid hk
          clear hcv hk
          go_wp2_with fail
          clear hqe
          go_quiet ((go_at_call 51; exact hC _))
          clear hze
          go_wp2
          go_roundw
          case rel =>
            refine ⟨i, q, rfl, by go_num, by omega, by omega, by omega, HI.out.1, .inr ⟨hqA, hqB, ?_⟩, HH.out.drewN _⟩
            rw [HY.out.1, HY.out.2]
            exact HK.out
          case measure => simp [intOf]; omega
        · have hd := cmpI_not hk
          obtain ⟨cv, hcv⟩ : ∃ cv, cmpI (key y) (key x) = cv := ⟨_, rfl⟩
          rw [hcv] at hd
          simp only [hcv] at hC
          have hcv0 : ¬ cv < 0 := of_decide_eq_false hd
          have HK : Hid (key x ≤ key y) := Int.not_lt.1 hk
          clear hcv hk
          go_wp2_with fail
          clear hqe
          go_quiet ((go_at_call 51; exact hC _))
          clear hze
          go_wp2
          go_roundw
          case rel =>
            refine ⟨q + 1, j, by go_num, rfl, by omega, by omega, by omega, .inr ⟨by omega, by omega, ?_⟩, HI.out.2, HH.out.drewN _⟩
            have e1 : q + 1 - a - 1 = q - a := by omega
            have e2 : mid - (q + 1) = mid - 1 - q := by omega
            simp only [e1, e2, HY.out.1, HY.out.2]
            exact HK.out
          case measure => simp [intOf]; omega
      · obtain rfl : i = j := by omega

        obtain ⟨en, hen⟩ : ∃ q, q = mid + m - i := ⟨_, rfl⟩
        have hene : (mid : Int) + (m : Int) - (i : Int) = (en : Int) := by omega
        have HT := Lib.hid (sym_tail key bl blk cap N M w0 f IH.out X A B Y a m b mid i en s0 r0 HX.out hl HA.out hma hmb2 HSR.out hmi hjb has0 hr0m hr0mid hs0b (by omega) HI.out)
        generalize A.take (i - a) = A1 at HT
        generalize B.take (mid - i) = B1 at HT
        generalize A.drop (i - a) = A2 at HT
        generalize B.drop (mid - i) = B2 at HT
        have hen1 : i ≤ m := by omega
        have hen2 : m ≤ en := by omega
        have hen3 : en ≤ b := by omega
        clear hen HI HMid
        by_cases ht0 : i < m ∧ m < en
        · obtain ⟨hp0, hq0⟩ := ht0
          go_wp2_with fail
          all_goals
            refine (HT.out.r0 _ HH.out hp0 hq0).mono ?_
            rintro e w1 ⟨rfl, hr1⟩
            have HR1 := Lib.hid hr1
            clear hr1
            by_cases ht1 : a < i ∧ i < mid
            · obtain ⟨hp1, hq1⟩ := ht1
              go_wp2_with fail
              all_goals
                refine (HT.out.l0 _ HR1.out hp1 hq1).mono ?_
                rintro e w2 ⟨rfl, C1, hcp, hcs, hr2⟩
                have HC1 := Lib.hid (And.intro hcp hcs)
                have HR2 := Lib.hid hr2
                clear hcp hcs hr2
                by_cases ht2 : mid < en ∧ en < b
                · obtain ⟨hp2, hq2⟩ := ht2
                  go_wp2_with fail
                  all_goals
                    refine (HT.out.q0 _ C1 HC1.out.1 HR2.out hp2 hq2).mono ?_
                    rintro e w3 ⟨rfl, C2, hcp, hcs, hr3⟩
                    have HC2 := Lib.hid (And.intro hcp hcs)
                    have HR3 := Lib.hid hr3
                    clear hcp hcs hr3
                    go_wp2
                    all_goals
                      go_end0
                      exact ⟨rfl, HT.out.fin C1 C2 _ HC1.out.1 HC1.out.2 HC2.out.1 HC2.out.2 HR3.out⟩
                · obtain ⟨C2, hcp, hcs, hr3⟩ := HT.out.q1 _ C1 HR2.out ht2
                  have HC2 := Lib.hid (And.intro hcp hcs)
                  have HR3 := Lib.hid hr3
                  clear hcp hcs hr3
                  go_wp2
                  all_goals
                    go_end0
                    exact ⟨rfl, HT.out.fin C1 C2 _ HC1.out.1 HC1.out.2 HC2.out.1 HC2.out.2 HR3.out⟩
            · obtain ⟨C1, hcp, hcs, hr2⟩ := HT.out.l1 _ HR1.out ht1
              have HC1 := Lib.hid (And.intro hcp hcs)
              have HR2 := Lib.hid hr2
              clear hcp hcs hr2
              by_cases ht2 : mid < en ∧ en < b
              · obtain ⟨hp2, hq2⟩ := ht2
                go_wp2_with fail
                all_goals
                  refine (HT.out.q0 _ C1 HC1.out.1 HR2.out hp2 hq2).mono ?_
                  rintro e w3 ⟨rfl, C2, hcp, hcs, hr3⟩
                  have HC2 := Lib.hid (And.intro hcp hcs)
                  have HR3 := Lib.hid hr3
                  clear hcp hcs hr3
                  go_wp2
                  all_goals
                    go_end0
                    exact ⟨rfl, HT.out.fin C1 C2 _ HC1.out.1 HC1.out.2 HC2.out.1 HC2.out.2 HR3.out⟩
              · obtain ⟨C2, hcp, hcs, hr3⟩ := HT.out.q1 _ C1 HR2.out ht2
                have HC2 := Lib.hid (And.intro hcp hcs)
                have HR3 := Lib.hid hr3
                clear hcp hcs hr3
                go_wp2
                all_goals
                  go_end0
                  exact ⟨rfl, HT.out.fin C1 C2 _ HC1.out.1 HC1.out.2 HC2.out.1 HC2.out.2 HR3.out⟩
        · have HR1 := Lib.hid (HT.out.r1 _ HH.out ht0)
          by_cases ht1 : a < i ∧ i < mid
          · obtain ⟨hp1, hq1⟩ := ht1
            go_wp2_with fail
            all_goals
              refine (HT.out.l0 _ HR1.out hp1 hq1).mono ?_
              rintro e w2 ⟨rfl, C1, hcp, hcs, hr2⟩
              have HC1 := Lib.hid (And.intro hcp hcs)
              have HR2 := Lib.hid hr2
              clear hcp hcs hr2
              by_cases ht2 : mid < en ∧ en < b
              · obtain ⟨hp2, hq2⟩ := ht2
                go_wp2_with fail
                all_goals
                  refine (HT.out.q0 _ C1 HC1.out.1 HR2.out hp2 hq2).mono ?_
                  rintro e w3 ⟨rfl, C2, hcp, hcs, hr3⟩
                  have HC2 := Lib.hid (And.intro hcp hcs)
                  have HR3 := Lib.hid hr3
                  clear hcp hcs hr3
                  go_wp2
                  all_goals
                    go_end0
                    exact ⟨rfl, HT.out.fin C1 C2 _ HC1.out.1 HC1.out.2 HC2.out.1 HC2.out.2 HR3.out⟩
              · obtain ⟨C2, hcp, hcs, hr3⟩ := HT.out.q1 _ C1 HR2.out ht2
                have HC2 := Lib.hid (And.intro hcp hcs)
                have HR3 := Lib.hid hr3
                clear hcp hcs hr3
                go_wp2
                all_goals
                  go_end0
                  exact ⟨rfl, HT.out.fin C1 C2 _ HC1.out.1 HC1.out.2 HC2.out.1 HC2.out.2 HR3.out⟩
          · obtain ⟨C1, hcp, hcs, hr2⟩ := HT.out.l1 _ HR1.out ht1
            have HC1 := Lib.hid (And.intro hcp hcs)
            have HR2 := Lib.hid hr2
            clear hcp hcs hr2
            by_cases ht2 : mid < en ∧ en < b
            · obtain ⟨hp2, hq2⟩ := ht2
              go_wp2_with fail
              all_goals
                refine (HT.out.q0 _ C1 HC1.out.1 HR2.out hp2 hq2).mono ?_
                rintro e w3 ⟨rfl, C2, hcp, hcs, hr3⟩
                have HC2 := Lib.hid (And.intro hcp hcs)
                have HR3 := Lib.hid hr3
                clear hcp hcs hr3
                go_wp2
                all_goals
                  go_end0
                  exact ⟨rfl, HT.out.fin C1 C2 _ HC1.out.1 HC1.out.2 HC2.out.1 HC2.out.2 HR3.out⟩
            · obtain ⟨C2, hcp, hcs, hr3⟩ := HT.out.q1 _ C1 HR2.out ht2
              have HC2 := Lib.hid (And.intro hcp hcs)
              have HR3 := Lib.hid hr3
              clear hcp hcs hr3
              go_wp2
              all_goals
                go_end0
                exact ⟨rfl, HT.out.fin C1 C2 _ HC1.out.1 HC1.out.2 HC2.out.1 HC2.out.2 HR3.out⟩
end Go.Proofs.YtfaieldafoeaiaaDoor

/-
  slices.SortStableFunc at the program's comparison.
-/
namespace Go.Proofs.YtfaieldafoeaiaaDoor
open Go.RowKit

theorem sym_any (key : Nat → Int) (bl blk cap N M : Nat) (w0 : World) (HC : Hid (CmpOk key M blk bl w0)) : ∀ (f : Nat) (X A B Y : List Nat) (a m b : Nat) (w : World), A.length + B.length ≤ f → 1 ≤ A.length → 1 ≤ B.length → (∀ x ∈ A, x < M) → (∀ y ∈ B, y < M) → a = X.length → m = a + A.length → b = m + B.length → N = b + Y.length → N ≤ 1000 → Srt key A → Srt key B → (∀ x ∈ A, ∀ y ∈ B, x < y) → RowAt blk (X ++ A ++ B ++ Y) w0 w →
      Calls Tryd.prog 81 #[.slice (some ⟨blk, 0, none⟩) N cap, .int .i64 a, .int .i64 m, .int .i64 b, .func (.func 51) #[] #[.pointer (some ⟨bl, 0, none⟩)]] w (SymPost key blk X A B Y w0) := by
  intro f
  induction f with
  | zero => intro X A B Y a m b w hf h1; omega
  | succ f ih =>
    intro X A B Y a m b w hf h1 h2 hMA hMB ha hm hb hN hl hA hB hX h
    by_cases e1 : A.length = 1
    · obtain ⟨x, rfl⟩ := List.length_eq_one_iff.1 e1
      exact sym_ahead key bl blk cap N M X B Y x a m b w0 w HC (hMA x (by simp)) hMB ha (by simpa using hm) hb hN hl hB (fun y hy => hX x (by simp) y hy) h
    · by_cases e2 : B.length = 1
      · obtain ⟨y, rfl⟩ := List.length_eq_one_iff.1 e2
        exact sym_behind key bl blk cap N M X A Y y a m b w0 w HC (hMB y (by simp)) hMA ha hm (by simpa using hb) hN hl (by omega) hA (fun x hx => hX x hx y (by simp)) h
      · exact sym_more key bl blk cap N M w0 HC f (Lib.hid ih) X A B Y a m b w hf (by omega) (by omega) hMA hMB ha hm hb hN hl hA hB hX h

def StabPost (key : Nat → Int) (blk : Nat) (O : List Nat) (w0 : World) (e : Ending) (w' : World) : Prop :=
  e = .returned (.tuple #[]) ∧ ∃ D, D.Perm O ∧ Srt key D ∧ RowAt blk D w0 w'

/-- What each block's sort does. -/
theorem stab_ins {key : Nat → Int} {bl blk cap N M : Nat} {w0 : World} (HC : Hid (CmpOk key M blk bl w0)) {X OX R1 R2 : List Nat} {a b : Nat} {w : World} (hO : (OX ++ (R1 ++ R2)).Pairwise (· < ·)) (hM : ∀ x ∈ OX ++ (R1 ++ R2), x < M) (ha : a = X.length) (hb : b = a + R1.length) (hN : N = b + R2.length) (hl : N ≤ 1000) (h : RowAt blk (X ++ (R1 ++ R2)) w0 w) :
    Calls Tryd.prog 80 #[.slice (some ⟨blk, 0, none⟩) N cap, .int .i64 a, .int .i64 b, .func (.func 51) #[] #[.pointer (some ⟨bl, 0, none⟩)]] w fun e w' =>
      e = .returned (.tuple #[]) ∧ ∃ C, C.Perm R1 ∧ Srt key C ∧ RowAt blk (X ++ C ++ R2) w0 w' := by
  refine ins_any key bl blk cap N M X R1 R2 a b w0 w HC (fun x hx => hM x (by simp [hx])) ha hb hN hl ?_ (by simpa using h)
  exact (List.pairwise_append.1 (List.pairwise_append.1 hO).2.1).1
/-- What each merge does. -/
theorem stab_sym {key : Nat → Int} {bl blk cap N M : Nat} {w0 : World} (HC : Hid (CmpOk key M blk bl w0)) {X A B R OX OA OB OR : List Nat} {a m b : Nat} {w : World} (hO : (OX ++ (OA ++ (OB ++ OR))).Pairwise (· < ·)) (hM : ∀ x ∈ OX ++ (OA ++ (OB ++ OR)), x < M) (hA : A.Perm OA) (hB : B.Perm OB) (sA : Srt key A) (sB : Srt key B) (h1 : 1 ≤ A.length) (h2 : 1 ≤ B.length)
    (ha : a = X.length) (hm : m = a + A.length) (hb : b = m + B.length) (hN : N = b + R.length) (hl : N ≤ 1000) (h : RowAt blk (X ++ (A ++ (B ++ R))) w0 w) :
    Calls Tryd.prog 81 #[.slice (some ⟨blk, 0, none⟩) N cap, .int .i64 a, .int .i64 m, .int .i64 b, .func (.func 51) #[] #[.pointer (some ⟨bl, 0, none⟩)]] w (SymPost key blk X A B R w0) := by
  refine sym_any key bl blk cap N M w0 HC _ X A B R a m b w (Nat.le_refl _) h1 h2 (fun x hx => hM x (by simp [hA.subset hx])) (fun x hx => hM x (by simp [hB.subset hx])) ha hm hb hN hl sA sB ?_ (by simpa using h)
  intro x hx y hy
  exact (List.pairwise_append.1 (List.pairwise_append.1 hO).2.1).2.2 x (hA.subset hx) y (List.mem_append_left _ (hB.subset hy))

set_option maxHeartbeats 1000000 in
set_option maxRecDepth 100000 in
theorem stab_any (key : Nat → Int) (bl blk cap N M : Nat) (O : List Nat) (w0 w : World) (HC : Hid (CmpOk key M blk bl w0)) (hM : ∀ x ∈ O, x < M) (hN : O.length = N) (hl : N ≤ 1000) (hO : O.Pairwise (· < ·)) (h : RowAt blk O w0 w) :
    Calls Tryd.prog 70 #[.slice (some ⟨blk, 0, none⟩) N cap, .int .i64 N, .func (.func 51) #[] #[.pointer (some ⟨bl, 0, none⟩)]] w (StabPost key blk O w0) := by
  have HH := Lib.hid h
  have HO := Lib.hid (And.intro hM (And.intro hO hN))
  clear h hM hN hO
  go_enter Tryd.func70, Tryd.ntmps70
  go_wp2
  go_loopw [7, 8] (fun s t wr => ∃ (a : Nat) (X OX R : List Nat), s = .int .i64 a ∧ t = .int .i64 ((a : Int) + 20) ∧ a = X.length ∧ a + R.length = N ∧ Full key 20 X OX ∧ O = OX ++ R ∧ RowAt blk (X ++ R) w0 wr) (fun s _ _ => N - (intOf s).toNat)
  case atStart => exact ⟨0, [], [], O, rfl, by first | rfl | go_num, rfl, by simpa using HO.out.2.2, .nil, rfl, HH.out⟩
  case round =>
    obtain ⟨a, X, OX, R, rfl, rfl, haX, haR, hF, hOX, hr⟩ := hrel
    clear HH
    have HR := Lib.hid (And.intro hr (And.intro haX (And.intro hF hOX)))
    clear hr haX hF hOX
    by_cases hlt : a + 20 ≤ N
    · obtain ⟨R1, R2, hR12, hR1⟩ : ∃ R1 R2, R = R1 ++ R2 ∧ R1.length = 20 := ⟨R.take 20, R.drop 20, (List.take_append_drop _ _).symm, by simp; omega⟩
      subst hR12
      rw [List.length_append, hR1] at haR
      have HI : Hid (∀ w1, RowAt blk (X ++ (R1 ++ R2)) w0 w1 → Calls Tryd.prog 80 #[.slice (some ⟨blk, 0, none⟩) N cap, .int .i64 a, .int .i64 ((a : Int) + 20), .func (.func 51) #[] #[.pointer (some ⟨bl, 0, none⟩)]] w1 fun e w' =>
          e = .returned (.tuple #[]) ∧ ∃ C, C.Perm R1 ∧ Srt key C ∧ RowAt blk (X ++ C ++ R2) w0 w') := by
        intro w1 h1
        obtain ⟨_, g1, g2, g3⟩ := HR.out
        obtain ⟨o1, o2, o3⟩ := HO.out
        have := stab_ins (cap := cap) (N := N) (b := a + 20) HC (by rw [← g3]; exact o2) (by rw [← g3]; exact o1) g1 (by omega) (by omega) hl h1
        exact this
      go_wp2_with (go_at_call 80; refine (HI.out _ HR.out.1).mono ?_; rintro e w2 ⟨rfl, C, hcp, hcs, hr2⟩; have HC2 := Lib.hid (And.intro hcp (And.intro hcs hr2)); clear hcp hcs hr2)
      go_roundw
      case rel =>
        obtain ⟨_, g1, g2, g3⟩ := HR.out
        obtain ⟨c1, c2, c3⟩ := HC2.out
        have hC20 : C.length = 20 := by rw [c1.length_eq]; exact hR1
        exact ⟨a + 20, X ++ C, OX ++ R1, R2, by go_num, by go_num, by rw [List.length_append]; omega, by omega, .snoc g2 hC20 c2 c1, by rw [g3, List.append_assoc], c3⟩
      case measure => simp [intOf]; omega
    · have HI : Hid (∀ w1, RowAt blk (X ++ R) w0 w1 → Calls Tryd.prog 80 #[.slice (some ⟨blk, 0, none⟩) N cap, .int .i64 a, .int .i64 N, .func (.func 51) #[] #[.pointer (some ⟨bl, 0, none⟩)]] w1 fun e w' =>
          e = .returned (.tuple #[]) ∧ ∃ D, Good key 20 D O ∧ D.length = N ∧ RowAt blk D w0 w') := by
        intro w1 h1
        obtain ⟨_, g1, g2, g3⟩ := HR.out
        obtain ⟨o1, o2, o3⟩ := HO.out
        have := stab_ins (cap := cap) (N := N) (b := N) (R1 := R) (R2 := []) (OX := OX) HC (by rw [List.append_nil, ← g3]; exact o2) (by rw [List.append_nil, ← g3]; exact o1) g1 (by omega) (by simp) hl (by simpa using h1)
        refine this.mono ?_
        rintro e w' ⟨he, C, c1, c2, c3⟩
        have hl := c1.length_eq
        exact ⟨he, X ++ C, by rw [g3]; exact g2.good (.last (by omega) c2 c1), by rw [List.length_append]; omega, by simpa using c3⟩
      go_wp2_with (go_at_call 80; refine (HI.out _ HR.out.1).mono ?_; rintro e w2 ⟨rfl, D, hg, hdl, hr2⟩; have HD := Lib.hid (And.intro hg (And.intro hdl hr2)); clear hg hdl hr2)
      clear HI HR
      go_loopw [6] (fun s wr => ∃ (bs : Nat) (D : List Nat), s = .int .i64 bs ∧ 20 ≤ bs ∧ bs ≤ 2000 ∧ Good key bs D O ∧ D.length = N ∧ RowAt blk D w0 wr) (fun s _ => N - (intOf s).toNat)
      case atStart => exact ⟨20, D, rfl, by omega, by omega, HD.out.1, HD.out.2.1, HD.out.2.2⟩
      case round =>
        obtain ⟨bs, D, rfl, hb20, hb2000, hg, hdl, hr⟩ := hrel
        clear HD
        by_cases hlt2 : bs < N
        · have HD : Hid (Good key bs D O ∧ D.length = N ∧ RowAt blk D w0 wr) := ⟨hg, hdl, hr⟩
          clear hg hdl hr
          go_wp2
          go_loopw [7, 8] (fun s t wr2 => ∃ (a : Nat) (X OX R OR : List Nat), s = .int .i64 a ∧ t = .int .i64 ((a : Int) + 2 * (bs : Int)) ∧ a = X.length ∧ a + R.length = N ∧ Full key (2 * bs) X OX ∧ Good key bs R OR ∧ O = OX ++ OR ∧ RowAt blk (X ++ R) w0 wr2) (fun s _ _ => N - (intOf s).toNat)
          case atStart => exact ⟨0, [], [], D, O, rfl, by first | rfl | go_num, rfl, by simpa using HD.out.2.1, .nil, HD.out.1, rfl, HD.out.2.2⟩
          case round =>
            obtain ⟨a, X, OX, R, OR, rfl, rfl, haX, haR, hF, hG, hOX, hr⟩ := hrel
            clear HD
            have HR := Lib.hid (And.intro hr (And.intro haX (And.intro hF (And.intro hG hOX))))
            clear hr haX hF hG hOX
            by_cases hlt3 : a + 2 * bs ≤ N
            · have HI : Hid (∀ w1, RowAt blk (X ++ R) w0 w1 → Calls Tryd.prog 81 #[.slice (some ⟨blk, 0, none⟩) N cap, .int .i64 a, .int .i64 ((a : Int) + (bs : Int)), .int .i64 ((a : Int) + 2 * (bs : Int)), .func (.func 51) #[] #[.pointer (some ⟨bl, 0, none⟩)]] w1 fun e w' =>
                  e = .returned (.tuple #[]) ∧ ∃ X' OX' R' OR', a + 2 * bs = X'.length ∧ a + 2 * bs + R'.length = N ∧ Full key (2 * bs) X' OX' ∧ Good key bs R' OR' ∧ O = OX' ++ OR' ∧ RowAt blk (X' ++ R') w0 w') := by
                intro w1 h1
                obtain ⟨_, g1, g2, g3, g4⟩ := HR.out
                obtain ⟨o1, o2, o3⟩ := HO.out
                obtain ⟨A, OA, R1, OR1, rfl, rfl, hA1, hA2, hA3, hG1⟩ := g3.split (by omega)
                rw [List.length_append] at haR
                obtain ⟨B, OB, R2, OR2, rfl, rfl, hB1, hB2, hB3, hG2⟩ := hG1.split (by omega)
                rw [List.length_append] at haR
                have := stab_sym (cap := cap) (N := N) (a := a) (m := a + bs) (b := a + 2 * bs) HC (by rw [← g4]; exact o2) (by rw [← g4]; exact o1) hA3 hB3 hA2 hB2 (by omega) (by omega) g1 (by omega) (by omega) (by omega) hl h1
                rw [show ((a + bs : Nat) : Int) = (a : Int) + (bs : Int) by omega, show ((a + 2 * bs : Nat) : Int) = (a : Int) + 2 * (bs : Int) by omega] at this
                refine this.mono ?_
                rintro e w' ⟨he, C, c1, c2, c3⟩
                have hcl := c1.length_eq
                rw [List.length_append] at hcl
                exact ⟨he, X ++ C, OX ++ (OA ++ OB), R2, OR2, by rw [List.length_append]; omega, by omega, .snoc g2 (by omega) c2 (c1.trans (hA3.append hB3)), hG2, by rw [g4]; simp, c3⟩
              go_wp2_with (go_at_call 81; refine (HI.out _ HR.out.1).mono ?_; rintro e w2 ⟨rfl, hx⟩; have HN := Lib.hid hx; clear hx)
              go_roundw
              case rel =>
                obtain ⟨X', OX', R', OR', n1, n2, n3, n4, n5, n6⟩ := HN.out
                exact ⟨a + 2 * bs, X', OX', R', OR', by go_num, by go_num, n1, n2, n3, n4, n5, n6⟩
              case measure => simp [intOf]; omega
            · by_cases hlt4 : a + bs < N
              · have HI : Hid (∀ w1, RowAt blk (X ++ R) w0 w1 → Calls Tryd.prog 81 #[.slice (some ⟨blk, 0, none⟩) N cap, .int .i64 a, .int .i64 ((a : Int) + (bs : Int)), .int .i64 N, .func (.func 51) #[] #[.pointer (some ⟨bl, 0, none⟩)]] w1 fun e w' =>
                    e = .returned (.tuple #[]) ∧ ∃ D, Good key (2 * bs) D O ∧ D.length = N ∧ RowAt blk D w0 w') := by
                  intro w1 h1
                  obtain ⟨_, g1, g2, g3, g4⟩ := HR.out
                  obtain ⟨o1, o2, o3⟩ := HO.out
                  obtain ⟨A, OA, B, OB, rfl, rfl, hA1, hA2, hA3, hG1⟩ := g3.split (by omega)
                  rw [List.length_append] at haR
                  have := stab_sym (cap := cap) (N := N) (a := a) (m := a + bs) (b := N) (R := []) (OR := []) HC (by rw [List.append_nil, ← g4]; exact o2) (by rw [List.append_nil, ← g4]; exact o1) hA3 hG1.perm hA2 (hG1.whole (by omega)) (by omega) (by omega) g1 (by omega) (by omega) (by simp) hl (by simpa using h1)
                  rw [show ((a + bs : Nat) : Int) = (a : Int) + (bs : Int) by omega] at this
                  refine this.mono ?_
                  rintro e w' ⟨he, C, c1, c2, c3⟩
                  have hcl := c1.length_eq
                  rw [List.length_append] at hcl
                  exact ⟨he, X ++ C, by rw [g4]; exact g2.good (.last (by omega) c2 (c1.trans (hA3.append hG1.perm))), by rw [List.length_append]; omega, by simpa using c3⟩
                go_wp2_with (go_at_call 81; refine (HI.out _ HR.out.1).mono ?_; rintro e w2 ⟨rfl, hx⟩; have HN := Lib.hid hx; clear hx)
                go_roundw
                case rel =>
                  obtain ⟨D', n1, n2, n3⟩ := HN.out
                  exact ⟨2 * bs, D', by go_num, by omega, by omega, n1, n2, n3⟩
                case measure => simp [intOf]; omega
              · have HN : Hid (∃ D, Good key (2 * bs) D O ∧ D.length = N ∧ RowAt blk D w0 wr) := by
                  obtain ⟨h1, g1, g2, g3, g4⟩ := HR.out
                  exact ⟨X ++ R, by rw [g4]; exact g2.good (.last (by omega) (g3.whole (by omega)) g3.perm), by rw [List.length_append]; omega, h1⟩
                go_wp2
                go_roundw
                case rel =>
                  obtain ⟨D', n1, n2, n3⟩ := HN.out
                  exact ⟨2 * bs, D', by go_num, by omega, by omega, n1, n2, n3⟩
                case measure => simp [intOf]; omega
        · have HF : Hid (∃ D, D.Perm O ∧ Srt key D ∧ RowAt blk D w0 wr) := ⟨D, hg.perm, hg.whole (by omega), hr⟩
          clear hg hdl hr
          go_wp2
          go_end0
          exact ⟨rfl, HF.out⟩

set_option maxHeartbeats 400000 in
theorem sort_any (key : Nat → Int) (bl blk cap N M : Nat) (O : List Nat) (w0 w : World) (HC : Hid (CmpOk key M blk bl w0)) (hM : ∀ x ∈ O, x < M) (hN : O.length = N) (hl : N ≤ 1000) (hO : O.Pairwise (· < ·)) (h : RowAt blk O w0 w) :
    Calls Tryd.prog 50 #[.slice (some ⟨blk, 0, none⟩) N cap, .func (.func 51) #[] #[.pointer (some ⟨bl, 0, none⟩)]] w (StabPost key blk O w0) := by
  have HS := stab_any key bl blk cap N M O w0 w HC hM hN hl hO h
  clear h hO hN hM
  go_enter Tryd.func50, Tryd.ntmps50
  go_wp2_with (go_at_call 70; refine HS.mono ?_; rintro e w2 ⟨rfl, hx⟩)
  go_end0
  exact ⟨rfl, hx⟩

set_option maxHeartbeats 400000 in
theorem ins_none (bl cap : Nat) (A : Option Addr) (w : World) :
    Calls Tryd.prog 80 #[.slice A 0 cap, .int .i64 0, .int .i64 0, .func (.func 51) #[] #[.pointer (some ⟨bl, 0, none⟩)]] w fun e w' => e = .returned (.tuple #[]) ∧ w = w' := by
  go_enter Tryd.func80, Tryd.ntmps80
  go_wp2
  refine wp_loop_rounds 1 ?_
  rw [rounds_succ]
  go_wp2
  go_end0
  exact ⟨rfl, rfl⟩
set_option maxHeartbeats 400000 in
theorem stab_none (bl cap : Nat) (A : Option Addr) (w : World) :
    Calls Tryd.prog 70 #[.slice A 0 cap, .int .i64 0, .func (.func 51) #[] #[.pointer (some ⟨bl, 0, none⟩)]] w fun e w' => e = .returned (.tuple #[]) ∧ w = w' := by
  go_enter Tryd.func70, Tryd.ntmps70
  go_wp2
  refine wp_loop_rounds 1 ?_
  rw [rounds_succ]
  go_wp2_with (go_at_call 80; refine (ins_none _ _ _ _).mono ?_; rintro e w2 ⟨rfl, rfl⟩)
  refine wp_loop_rounds 1 ?_
  rw [rounds_succ]
  go_wp2
  go_end0
  exact ⟨rfl, rfl⟩
set_option maxHeartbeats 400000 in
/-- Of no place. -/
theorem sort_none (bl cap : Nat) (A : Option Addr) (w : World) :
    Calls Tryd.prog 50 #[.slice A 0 cap, .func (.func 51) #[] #[.pointer (some ⟨bl, 0, none⟩)]] w fun e w' => e = .returned (.tuple #[]) ∧ w = w' := by
  go_enter Tryd.func50, Tryd.ntmps50
  go_wp2_with (go_at_call 70; refine (stab_none _ _ _ _).mono ?_; rintro e w2 ⟨rfl, rfl⟩)
  go_end0
  exact ⟨rfl, rfl⟩
end Go.Proofs.YtfaieldafoeaiaaDoor

/-
  tell: a number by digits, written to a builder.
-/
namespace Go.Proofs.YtfaieldafoeaiaaDoor
open Go.RowKit

theorem digs_all : ∀ n : Fin 36, (#[97, 98, 99, 100, 101, 102, 103, 104, 105, 106, 107, 108, 109, 110, 111, 112, 113, 114, 115, 116, 117, 118, 119, 120, 121, 122, 48, 49, 50, 51, 52, 53, 54, 55, 56, 57] : Array UInt8)[n.val]'n.isLt = dig n.val := by decide +kernel
theorem digs_at (n : Nat) (h : n < 36) : ((⟨#[97, 98, 99, 100, 101, 102, 103, 104, 105, 106, 107, 108, 109, 110, 111, 112, 113, 114, 115, 116, 117, 118, 119, 120, 121, 122, 48, 49, 50, 51, 52, 53, 54, 55, 56, 57]⟩ : ByteArray)[n]'h) = dig n := digs_all ⟨n, h⟩

theorem BldO.drew {b : Nat} {o : Option Nat} {l : List UInt8} {w : World} (h : BldO b o l w) : BldO b o l w.drew := h
set_option maxHeartbeats 400000 in
set_option maxRecDepth 100000 in
theorem qdigit_any (b p : Nat) (o : Option Nat) (l : List UInt8) (n : Nat) (x : Int) (w : World) (hx : x = (n : Int)) (hn : n < 36) (h : BldO b o l w) (hl : l.length + 1 ≤ 1000000)
    (hp : w.cell? ⟨p, 0, none⟩ = some (.pointer (some ⟨b, 0, none⟩))) :
    Calls Tryd.prog 72 #[.int .i64 x, .pointer (some ⟨p, 0, none⟩)] w fun e w' => e = .returned (.tuple #[]) ∧ ∃ o', BldO b o' (l ++ [dig n]) w' ∧ OAt w o o' ∧ Kept (b :: o.toList) w w' := by
  subst hx
  have HD := Lib.hid h
  clear h
  have hni : (n : Int) < 36 := by omega
  go_enter Tryd.func72, Tryd.ntmps72
  go_wp2
  go_region_with (
    go_at_call 14
    rw [digs_at n hn]
    refine (bldo_byte b o l (dig n) _ _ ?_ rfl hl).mono ?_
    · exact HD.out.drew
    rintro e w1 ⟨rfl, o', hb1, hb2, hb3⟩)
  all_goals
    go_end0
    exact ⟨rfl, o', hb1, hb2, ((Kept.refl _ _).drew).trans hb3 (fun k hk => .inl hk)⟩

theorem OAt.refl (w : World) (o : Option Nat) : OAt w o o := .inl rfl
theorem OAt.trans {w w' : World} {o1 o2 o3 : Option Nat} (h1 : OAt w o1 o2) (hs : w.heap.size ≤ w'.heap.size) (h2 : OAt w' o2 o3) : OAt w o1 o3 := by
  rcases h2 with rfl | ⟨k, rfl, hk⟩
  · exact h1
  · exact .inr ⟨k, rfl, by omega⟩
/-- Kept, a builder's row moved on. -/
theorem Kept.onto {w w1 w2 : World} {b : Nat} {o o1 : Option Nat} (h : Kept (b :: o.toList) w w1) (ho : OAt w o o1) (h2 : Kept (b :: o1.toList) w1 w2) : Kept (b :: o.toList) w w2 := by
  refine h.trans h2 (fun k hk => ?_)
  rcases List.mem_cons.1 hk with rfl | hk
  · exact .inl (by simp)
  · rcases ho with rfl | ⟨k', rfl, hk'⟩
    · exact .inl (List.mem_cons_of_mem _ hk)
    · simp at hk; subst hk; exact .inr hk'

set_option maxHeartbeats 1000000 in
set_option maxRecDepth 100000 in
theorem qtell_any (b : Nat) (o : Option Nat) (l : List UInt8) (q bias : Nat) (x y : Int) (w : World) (hx : x = (q : Int)) (hy : y = (bias : Int)) (hq : q < 1000000000) (hb : bias ≤ 8589934592) (h : BldO b o l w) (hl : l.length ≤ 900000) :
    Calls Tryd.prog 54 #[.pointer (some ⟨b, 0, none⟩), .int .i64 x, .int .i64 y] w fun e w' => e = .returned (.tuple #[]) ∧ ∃ o', BldO b o' (l ++ tellK q bias 36) w' ∧ OAt w o o' ∧ Kept (b :: o.toList) w w' := by
  subst hx; subst hy
  have hmf : ∀ (fn : Fn) (first cap : Array Value) (w : World), (Instr.makeFunc fn first cap).run Tryd.prog w = .ok (.func fn first cap) w := fun _ _ _ _ => rfl
  have HD := Lib.hid h
  have HQ : Hid (∀ (q1 k : Nat), q1 ≤ q → (tellK q1 bias k).length ≤ 10) := fun q1 k hq1 => tellK_log bias 9 q1 k (by simp; omega)
  clear h
  go_enter Tryd.func54, Tryd.ntmps54
  go_wp2
  go_loopw [1, 7] (fun a k' wr => ∃ (q1 k : Nat) (l1 : List UInt8) (o1 : Option Nat), a = .int .i64 q1 ∧ k' = .int .i64 k ∧ BldO b o1 (l ++ l1) wr ∧ OAt w o o1 ∧ Kept (b :: o.toList) w wr ∧ l1 ++ tellK q1 bias k = tellK q bias 36 ∧ k + 36 * q1 ≤ 36 + 36 * q ∧ q1 ≤ q ∧ l1.length ≤ 10 ∧
     wr.cell? ⟨w.heap.size, 0, none⟩ = some (.pointer (some ⟨b, 0, none⟩)) ∧ o1 ≠ some w.heap.size) (fun a _ _ => (intOf a).toNat)
  case atStart =>
    have hh := HD.out
    refine ⟨q, 36, [], o, rfl, rfl, ?_, OAt.refl _ _, (Kept.refl _ _).alloc _, rfl, by omega, Nat.le_refl _, by simp, by simp, ?_⟩
    · rw [List.append_nil]
      exact hh.kept (S := []) ((Kept.refl _ _).alloc _) (by simp) (by simp)
    · intro e
      have := hh.olt _ e
      omega
  case round =>
    obtain ⟨q1, k, l1, o1, rfl, rfl, hB, hO, hK, hl1, hk, hq1, hl9, hc, hno⟩ := hrel
    have HB := Lib.hid hB
    have HOK := Lib.hid (And.intro hO hK)
    have HL := Lib.hid hl1
    have HN := Lib.hid hno
    have hltb := hB.lt
    have hbne : b ≠ w.heap.size := by have := HD.out.lt; omega
    have hwz := hK.size
    clear hB hO hK hl1 hno
    have ht := thr_pos k bias
    obtain ⟨t, htt⟩ : ∃ t, thr k bias = t := ⟨_, rfl⟩
    rw [htt] at ht
    obtain ⟨ht0, ht1⟩ := ht
    by_cases h : q1 < t
    · have HS := Lib.hid (tellK_small (bias := bias) (k := k) (q := q1) (by omega))
      have HT := Lib.hid htt
      clear htt
      go_wp2_with (first
        | (go_at_call 68; refine (qthr_any k bias _ _ _ rfl rfl (by omega) (by omega)).mono ?_; rintro e w' ⟨rfl, rfl⟩; rw [HT.out])
        | (go_at_call 72; refine (qdigit_any b w.heap.size o1 (l ++ l1) q1 _ _ rfl (by omega) HB.out (by rw [List.length_append]; omega) hc).mono ?_; rintro e w1 ⟨rfl, o2, hb1, hb2, hb3⟩))
      refine bodyPost_ret (results_none rfl _ _ _) rfl ?_
      refine ⟨rfl, o2, ?_, HOK.out.1.trans HOK.out.2.size hb2, HOK.out.2.onto HOK.out.1 hb3⟩
      rw [← HL.out, HS.out, ← List.append_assoc]
      exact hb1
    · have HS := Lib.hid (tellK_more (bias := bias) (k := k) (q := q1) (by omega))
      rw [htt] at HS
      have HT := Lib.hid htt
      clear htt
      obtain ⟨r, hr⟩ : ∃ r, (q1 - t) % (36 - t) = r := ⟨_, rfl⟩
      obtain ⟨q2, hq2⟩ : ∃ q2, (q1 - t) / (36 - t) = q2 := ⟨_, rfl⟩
      rw [hr, hq2] at HS
      have hr0 : r < 36 - t := by rw [← hr]; exact Nat.mod_lt _ (by omega)
      have hq20 : q2 ≤ q1 - t := by rw [← hq2]; exact Nat.div_le_self _ _
      have hri : ((q1 : Int) - (t : Int)) % (36 - (t : Int)) = (r : Int) := by
        rw [← hr, Int.natCast_emod]; congr 1 <;> omega
      have hqi : ((q1 : Int) - (t : Int)) / (36 - (t : Int)) = (q2 : Int) := by
        rw [← hq2, Int.natCast_ediv]; congr 1 <;> omega
      clear hr hq2
      have hl10 : l1.length + 1 ≤ 10 := by
        have h1 := HQ.out q 36 (Nat.le_refl _)
        rw [← HL.out, HS.out, List.length_append, List.length_cons] at h1
        have h2 := List.length_pos_iff.2 (tellK_ne bias q2 (k + 36))
        omega
      go_wp2_with (first
        | (go_at_call 68; refine (qthr_any k bias _ _ _ rfl rfl (by omega) (by omega)).mono ?_; rintro e w' ⟨rfl, rfl⟩; rw [HT.out])
        | (go_at_call 72; refine (qdigit_any b w.heap.size o1 (l ++ l1) (t + r) _ _ (by omega) (by omega) HB.out (by rw [List.length_append]; omega) hc).mono ?_; rintro e w1 ⟨rfl, o2, hb1, hb2, hb3⟩))
      have hc1 : w1.cell? ⟨w.heap.size, 0, none⟩ = some (.pointer (some ⟨b, 0, none⟩)) := by
        rw [hb3.cell (p := ⟨w.heap.size, 0, none⟩) ?_ ?_]
        · exact hc
        · rcases Nat.lt_or_ge w.heap.size wr.heap.size with h' | h'
          · exact h'
          · simp [World.cell?, Array.getElem?_eq_none h'] at hc
        · have := HN.out
          simp only [List.mem_cons, not_or]
          refine ⟨fun e => hbne e.symm, ?_⟩
          cases o1 with
          | none => simp
          | some g => simp; rintro rfl; exact this rfl
      have hno2 : o2 ≠ some w.heap.size := by
        rcases hb2 with rfl | ⟨g, rfl, hg⟩
        · exact HN.out
        · intro e
          simp at e
          subst e
          rcases Nat.lt_or_ge w.heap.size wr.heap.size with h' | h'
          · omega
          · simp [World.cell?, Array.getElem?_eq_none h'] at hc
      go_roundw
      case rel => exact ⟨q2, k + 36, l1 ++ [dig (t + r)], o2, by go_num, by go_num, by rw [← List.append_assoc]; exact hb1, HOK.out.1.trans hwz hb2, HOK.out.2.onto HOK.out.1 hb3, by rw [List.append_assoc, ← HL.out, HS.out]; rfl, by omega, by omega, by simp; omega, hc1, hno2⟩
      case measure => simp [intOf]; omega
end Go.Proofs.YtfaieldafoeaiaaDoor

/-
  Encode: where a number is no scalar; the state of its loops.
-/
namespace Go.Proofs.YtfaieldafoeaiaaDoor
open Go.RowKit

theorem anyBad_yes {l : List Int} (h : ¬ ∀ c ∈ l, scal c = true) : anyBad l = true := by
  unfold anyBad
  rw [List.any_eq_true]
  apply Classical.byContradiction
  intro hn
  apply h
  intro c hc
  cases hs : scal c with
  | true => rfl
  | false => exact absurd ⟨c, hc, by rw [hs]; rfl⟩ hn
theorem anyBad_no {l : List Int} (h : ∀ c ∈ l, scal c = true) : anyBad l = false := by
  unfold anyBad
  rw [List.any_eq_false]
  intro c hc
  rw [h c hc]; simp

set_option maxHeartbeats 1000000 in
set_option maxRecDepth 100000 in
theorem enc_bad (A : Option Addr) (l : List Int) (cap : Nat) (w : World) (h : Runes w A l) (hr : ∀ c ∈ l, -2147483648 ≤ c ∧ c < 2147483648) (hb : ¬ ∀ c ∈ l, scal c = true) (hl : l.length ≤ 250) :
    Calls Tryd.prog 28 #[.slice A l.length cap] w (EncBad w) := by
  have HB := Lib.hid (anyBad_yes hb)
  have HC := qcontains_any A l cap (w.alloc (.cells #[.slice A l.length cap] 22)) (h.below ((Below.refl _ _).alloc (Nat.le_refl _) _)) hr (by omega)
  rw [HB.out] at HC
  clear hb h hr HB
  go_enter Tryd.func28, Tryd.ntmps28
  go_wp2_with (first
    | (go_at_call 24; refine HC.mono ?_; rintro e w' ⟨rfl, rfl⟩)
    | (go_at_call 34; refine (wrap_held _ _ _ _).mono ?_; rintro e w' ⟨rfl, rfl⟩))
  go_ret2
  refine ⟨[⟨#[112, 117, 110, 121]⟩], _, _, rfl, ?_, ?_⟩
  · have hc := Chain.lay (w := w.alloc (.cells #[.slice A l.length cap] 22)) (cs := []) (o := some 2) ⟨#[112, 117, 110, 121]⟩ rfl
    rw [show (w.alloc (.cells #[.slice A l.length cap] 22)).heap.size = w.heap.size + 1 by simp] at hc
    exact hc
  · exact ((Below.refl _ _).alloc (Nat.le_refl _) _).alloc (by simp) _

theorem ints_scal {ln : List Nat} (h : ∀ c ∈ ln, sc c = true) : ∀ c ∈ ints ln, scal c = true := by
  intro c hc
  obtain ⟨x, hx, rfl⟩ := List.mem_map.1 hc
  rw [sc_scal']
  exact h x hx

theorem Tryd.infoI64 : (Tryd.prog.info? 2).map (fun i => (i.zero, i.size, i.bytes)) = some (some (.int .i64 0), 1, 8) := by kernel_rfl
theorem Tryd.infoInt : (Tryd.prog.info? 3).map (fun i => (i.zero, i.size, i.bytes)) = some (some (.int .i64 0), 1, 8) := by kernel_rfl
theorem fen_none (i : Nat) : fen (fun _ => false) i = 0 := by
  have : ∀ n, cnt (fun _ => false) n = 0 := by
    intro n
    induction n with
    | zero => rfl
    | succ n ih => show cnt _ n + 0 = 0; rw [ih]
  unfold fen; rw [this, this]
/-- The tally, made. -/
theorem tally_made (w : World) (n : Nat) (hn : n ≤ 250) : ∃ w2, (Instr.makeSlice 77 (.int .i64 ((n : Int) + 1)) (.int .i64 ((n : Int) + 1))).run Tryd.prog w = .ok (.slice (some ⟨w.heap.size, 0, none⟩) (n + 1) (n + 1)) w2 ∧
    Tally w.heap.size n (fun _ => false) w2 ∧ Kept [] w w2 ∧ w2.heap.size = w.heap.size + 1 := by
  obtain ⟨i0, hi, hz0, hz1, hz2⟩ := info_parts Tryd.infoI64
  have hr := run_make (P := Tryd.prog) w 77 2 i0 (.int .i64 0) Tryd.underlying77 hi hz0 .i64 .i64 ((n : Int) + 1) ((n : Int) + 1) (by omega) (Int.le_refl _) (by rw [hz2]; omega) (by omega)
  rw [show ((n : Int) + 1).toNat = n + 1 by omega] at hr
  refine ⟨_, hr, ⟨by simp, fun i hi => ?_⟩, (Kept.refl _ _).alloc _, by simp⟩
  rw [fen_none, World.cell?_alloc_at _ _ _ _ (by simp), World.frozen?_alloc_at _ _ _ _ (by simp), hz1]
  refine ⟨?_, by simp⟩
  simp only [madeCells, Nat.mul_one]
  rw [Array.getElem?_eq_getElem (by simp; omega)]
  simp [Value.cells, Nat.mod_one]

def vi (x : Nat) : Value := .int .i64 (x : Int)
/-- The row of the others' places, in block g. -/
def RowO (v : Value) (O : List Nat) (g : Option Nat) (w : World) : Prop := w.ownsRow 0 3 1 v O.length (O.map vi) ∧ v.ownBlock = g
theorem RowO.kept {v : Value} {O : List Nat} {g : Option Nat} {w w' : World} {S : List Nat} (h : RowO v O g w) (hk : Kept S w w') (hs : ∀ k, g = some k → k ∉ S) : RowO v O g w' := ⟨owns_kept h.1 hk (fun k e => hs k (h.2 ▸ e)), h.2⟩
theorem oth_append {ops : Array Oper} {rest : List Oper} {o : Oper} {a : Act} {Q : Exit → Act → World → Prop} {w : World} (hgd : o.guard = none) (s x : Operand)
    (ho : o.op = .call { callee := .builtin .append, args := #[s, x], argTypes := #[78, 78] })
    (v : Value) (O : List Nat) (g : Option Nat) (p : Nat) (hs : a.eval s = v) (hx : a.eval x = .slice (some ⟨w.heap.size, 0, none⟩) 1 1) (h : RowO v O g w) (hl : O.length ≤ 4000)
    (k : ∀ v' w' g', RowO v' (O ++ [p]) g' w' → Kept g.toList w w' → (g' = g ∨ ∃ k, g' = some k ∧ w.heap.size ≤ k ∧ k < w'.heap.size) → wpList Tryd.prog ops Q rest (a.put o.dst v') w') : wpList Tryd.prog ops Q (o :: rest) a (w.alloc (.cells #[.int .i64 (p : Int)] 3)) := by
  obtain ⟨i0, hi, hz0, hz1, hz2⟩ := info_parts Tryd.infoInt
  obtain ⟨h1, rfl⟩ := h
  refine wpList_append_own_at _ hgd s x _ ho 0 3 i0 _ 1 8 Tryd.underlying78 hi hz0 hz1 hz2 rfl (by decide) v _ _ hs (World.ownsRow.alloc h1 _) ⟨w.heap.size, 0, none⟩ 1 1 [.int .i64 (p : Int)] hx rfl (cell_one_new _ _ _) (by simp [Value.oneCell']) (by simp only [maxLen]; omega) (by omega) (Nat.zero_le _) (fun v' w' hown hg _ hat => k v' w' v'.ownBlock ⟨?_, rfl⟩ ?_ ?_)
  · rw [List.length_append, List.map_append]; exact hown
  · exact ((Kept.refl _ _).alloc _).grown hg (fun k hk => .inl (by simp [hk]))
  · rcases hat with e | e
    · exact .inl e
    · have := (World.ownsRow.lt hown _ e).2
      exact .inr ⟨_, e, by simp, this⟩

/-- What Encode has made, and where. -/
structure Core (w0 : World) (A : Option Addr) (ln : List Nat) (cap bl bb bt : Nat) (o g : Option Nat) (txt : List UInt8) (M : Nat → Bool) (w : World) : Prop where
  runes : Runes w0 A (ints ln)
  below : Below w0.heap.size w0 w
  box : w.cell? ⟨bl, 0, none⟩ = some (.slice A ln.length cap)
  bld : BldO bb o txt w
  tal : Tally bt ln.length M w
  base : w0.heap.size ≤ bl ∧ w0.heap.size ≤ bb ∧ w0.heap.size ≤ bt ∧ bl < w.heap.size ∧ bl ≠ bb ∧ bl ≠ bt ∧ bb ≠ bt
  osep : ∀ k, o = some k → w0.heap.size ≤ k ∧ k ≠ bl ∧ k ≠ bt
  gsep : ∀ k, g = some k → w0.heap.size ≤ k ∧ k < w.heap.size ∧ k ≠ bl ∧ k ≠ bb ∧ k ≠ bt ∧ o ≠ some k
theorem Core.put {w0 : World} {A : Option Addr} {ln : List Nat} {cap bl bb bt : Nat} {o o' g : Option Nat} {txt txt' : List UInt8} {M : Nat → Bool} {w w' : World} (h : Core w0 A ln cap bl bb bt o g txt M w) (hb : BldO bb o' txt' w') (ho : OAt w o o') (hk : Kept (bb :: o.toList) w w') : Core w0 A ln cap bl bb bt o' g txt' M w' := by
  obtain ⟨b1, b2, b3, b4, b5, b6, b7⟩ := h.base
  have hsz := h.below.size
  have ht := h.tal.1
  have hol := h.bld.olt
  refine ⟨h.runes, h.below.trans (hk.below hsz ?_), ?_, hb, h.tal.kept hk ?_, ⟨b1, b2, b3, Nat.lt_of_lt_of_le b4 hk.size, b5, b6, b7⟩, ?_, ?_⟩
  · intro k hk'
    rcases List.mem_cons.1 hk' with rfl | hk'
    · exact b2
    · exact (h.osep k (by simpa using hk')).1
  · rw [hk.cell (p := ⟨bl, 0, none⟩) b4 ?_]
    · exact h.box
    · rintro hk'
      rcases List.mem_cons.1 hk' with e | hk'
      · exact b5 e
      · exact (h.osep bl (by simpa using hk')).2.1 rfl
  · intro hk'
    rcases List.mem_cons.1 hk' with e | hk'
    · exact b7 e.symm
    · exact (h.osep bt (by simpa using hk')).2.2 rfl
  · intro k e
    rcases ho with rfl | ⟨k', e', hk'⟩
    · exact h.osep k e
    · rw [e] at e'
      cases e'
      exact ⟨by omega, by omega, by omega⟩
  · intro k e
    obtain ⟨g1, g2, g3, g4, g5, g6⟩ := h.gsep k e
    refine ⟨g1, Nat.lt_of_lt_of_le g2 hk.size, g3, g4, g5, ?_⟩
    rcases ho with rfl | ⟨k', e', hk'⟩
    · exact g6
    · intro e2
      rw [e2] at e'
      cases e'
      omega
theorem Core.mark {w0 : World} {A : Option Addr} {ln : List Nat} {cap bl bb bt : Nat} {o g : Option Nat} {txt : List UInt8} {M M' : Nat → Bool} {w w' : World} (h : Core w0 A ln cap bl bb bt o g txt M w) (ht : Tally bt ln.length M' w') (hk : Kept [bt] w w') : Core w0 A ln cap bl bb bt o g txt M' w' := by
  obtain ⟨b1, b2, b3, b4, b5, b6, b7⟩ := h.base
  have hsz := h.below.size
  refine ⟨h.runes, h.below.trans (hk.below hsz (by simpa using b3)), ?_, h.bld.kept hk (by simpa using b7) (fun k e => by have := (h.osep k e).2.2; simpa using this), ht, ⟨b1, b2, b3, Nat.lt_of_lt_of_le b4 hk.size, b5, b6, b7⟩, h.osep, ?_⟩
  · rw [hk.cell (p := ⟨bl, 0, none⟩) b4 (by simpa using b6)]
    exact h.box
  · intro k e
    obtain ⟨g1, g2, g3, g4, g5, g6⟩ := h.gsep k e
    exact ⟨g1, Nat.lt_of_lt_of_le g2 hk.size, g3, g4, g5, g6⟩
theorem Core.row {w0 : World} {A : Option Addr} {ln : List Nat} {cap bl bb bt : Nat} {o g g' : Option Nat} {txt : List UInt8} {M : Nat → Bool} {w w' : World} (h : Core w0 A ln cap bl bb bt o g txt M w) (hk : Kept g.toList w w') (hg : g' = g ∨ ∃ k, g' = some k ∧ w.heap.size ≤ k ∧ k < w'.heap.size) : Core w0 A ln cap bl bb bt o g' txt M w' := by
  obtain ⟨b1, b2, b3, b4, b5, b6, b7⟩ := h.base
  have hsz := h.below.size
  have ht := h.tal.1
  have hbb := h.bld.lt
  have hol := h.bld.olt
  refine ⟨h.runes, h.below.trans (hk.below hsz (fun k hk' => (h.gsep k (by simpa using hk')).1)), ?_, h.bld.kept hk ?_ ?_, h.tal.kept hk ?_, ⟨b1, b2, b3, Nat.lt_of_lt_of_le b4 hk.size, b5, b6, b7⟩, h.osep, ?_⟩
  · rw [hk.cell (p := ⟨bl, 0, none⟩) b4 (fun hk' => (h.gsep bl (by simpa using hk')).2.2.1 rfl)]
    exact h.box
  · exact fun hk' => (h.gsep bb (by simpa using hk')).2.2.2.1 rfl
  · exact fun k e hk' => (h.gsep k (by simpa using hk')).2.2.2.2.2 e
  · exact fun hk' => (h.gsep bt (by simpa using hk')).2.2.2.2.1 rfl
  · intro k e
    rcases hg with rfl | ⟨k', e', hk1, hk2⟩
    · obtain ⟨g1, g2, g3, g4, g5, g6⟩ := h.gsep k e
      exact ⟨g1, Nat.lt_of_lt_of_le g2 hk.size, g3, g4, g5, g6⟩
    · rw [e] at e'
      cases e'
      refine ⟨by omega, hk2, by omega, by omega, by omega, fun e2 => ?_⟩
      have := hol _ e2
      omega
theorem Core.drewN {w0 : World} {A : Option Addr} {ln : List Nat} {cap bl bb bt : Nat} {o g : Option Nat} {txt : List UInt8} {M : Nat → Bool} {w : World} (h : Core w0 A ln cap bl bb bt o g txt M w) (n : Nat) : Core w0 A ln cap bl bb bt o g txt M (w.drewN n) :=
  ⟨h.runes, below_drewN h.below n, h.box, h.bld, h.tal, h.base, h.osep, h.gsep⟩
theorem Core.rune {w0 : World} {A : Option Addr} {ln : List Nat} {cap bl bb bt : Nat} {o g : Option Nat} {txt : List UInt8} {M : Nat → Bool} {w : World} (h : Core w0 A ln cap bl bb bt o g txt M w) {k : Nat} (hk : k < ln.length) : ∃ b off, A = some ⟨b, off, none⟩ ∧ w.cell? ⟨b, off + k, none⟩ = some (.int .i32 ((ln[k] : Nat) : Int)) := by
  obtain ⟨b, off, e, _, hc⟩ := (h.runes.below h.below) k _ (ints_at ln k hk)
  exact ⟨b, off, e, hc⟩

theorem RowO.shape {v : Value} {O : List Nat} {g : Option Nat} {w : World} (h : RowO v O g w) : (v = .slice none 0 0 ∧ O = []) ∨ ∃ gk c, v = .slice (some ⟨gk, 0, none⟩) O.length c ∧ g = some gk ∧ RowAt gk O w w := by
  obtain ⟨h1, rfl⟩ := h
  rcases h1.2 with ⟨hv, h0⟩ | ⟨gk, cap, cur, hv, _, hg, hn, hc, hcs, htk⟩
  · exact .inl ⟨hv, List.eq_nil_of_length_eq_zero h0⟩
  · refine .inr ⟨gk, cap, hv, by rw [hv]; rfl, ⟨(Array.getElem?_eq_some_iff.1 hg).1, Kept.refl _ _, fun i x hx => ?_⟩⟩
    have hi : i < O.length := (List.getElem?_eq_some_iff.1 hx).1
    refine ⟨?_, Lib.frozen_of_heap hg i⟩
    rw [Lib.cell_of_heap hg]
    have : (cur.toList.take (O.length * 1))[i]? = some (vi x) := by rw [htk, List.getElem?_map, hx]; rfl
    rw [List.getElem?_take, if_pos (by omega)] at this
    rw [← Array.getElem?_toList]
    exact this
/-- Behind so many turns of the second loop. -/
structure Loop2 (w0 : World) (A : Option Addr) (ln : List Nat) (cap bl bb bt : Nat) (o g : Option Nat) (D : List Nat) (t n i bias : Nat) (M : Nat → Bool) (T : List UInt8) (w : World) : Prop where
  core : Core w0 A ln cap bl bb bt o g ((basicOf ln).map UInt8.ofNat ++ (if (basicOf ln).length = 0 then [] else [45]) ++ T) M w
  cell : ∀ (j x : Nat), D[j]? = some x → ∃ gk, g = some gk ∧ w.cell? ⟨gk, j, none⟩ = some (.int .i64 (x : Int))
  run : Run ln M n i bias ((basicOf ln).length + t) T
  left : Left ln M ln.length n i (D.drop t)
  all : ∀ q, q < ln.length → M q = true ∨ q ∈ D.drop t
  count : cnt M ln.length = (basicOf ln).length + t
  bounds : n ≤ 1114111 ∧ i ≤ 500 ∧ bias ≤ 2000000000 ∧ T.length ≤ 10 * t
theorem Core.row_cell {w0 : World} {A : Option Addr} {ln : List Nat} {cap bl bb bt : Nat} {o g : Option Nat} {txt : List UInt8} {M : Nat → Bool} {w w' : World} {S : List Nat} {D : List Nat} (h : Core w0 A ln cap bl bb bt o g txt M w)
    (hc : ∀ (j x : Nat), D[j]? = some x → ∃ gk, g = some gk ∧ w.cell? ⟨gk, j, none⟩ = some (.int .i64 (x : Int))) (hk : Kept S w w') (hs : ∀ k, g = some k → k ∉ S) :
    ∀ (j x : Nat), D[j]? = some x → ∃ gk, g = some gk ∧ w'.cell? ⟨gk, j, none⟩ = some (.int .i64 (x : Int)) := by
  intro j x hx
  obtain ⟨gk, e, hc⟩ := hc j x hx
  exact ⟨gk, e, (hk.cell (p := ⟨gk, j, none⟩) (h.gsep gk e).2.1 (hs gk e)).trans hc⟩
theorem Core.g_bld {w0 : World} {A : Option Addr} {ln : List Nat} {cap bl bb bt : Nat} {o g : Option Nat} {txt : List UInt8} {M : Nat → Bool} {w : World} (h : Core w0 A ln cap bl bb bt o g txt M w) : ∀ k, g = some k → k ∉ bb :: o.toList := by
  intro q e hq
  obtain ⟨s1, s2, s3, s4, s5, s6⟩ := h.gsep q e
  rcases List.mem_cons.1 hq with e2 | hq
  · exact s4 e2
  · exact s6 (by simpa using hq)
theorem Core.g_tal {w0 : World} {A : Option Addr} {ln : List Nat} {cap bl bb bt : Nat} {o g : Option Nat} {txt : List UInt8} {M : Nat → Bool} {w : World} (h : Core w0 A ln cap bl bb bt o g txt M w) : ∀ k, g = some k → k ∉ [bt] :=
  fun q e hq => (h.gsep q e).2.2.2.2.1 (by simpa using hq)
theorem bas_all (ln : List Nat) {D : List Nat} (hD : D.Perm (oth ln ln.length)) : ∀ q, q < ln.length → bas ln ln.length q = true ∨ q ∈ D := by
  intro q hq
  by_cases h : ln.getD q 0 < 128
  · exact .inl (by unfold bas; rw [decide_eq_true hq, decide_eq_true h]; rfl)
  · exact .inr (hD.symm.subset (oth_mem.2 ⟨hq, by omega⟩))
/-- The start of the second loop. -/
theorem Loop2.start {w0 : World} {A : Option Addr} {ln : List Nat} {cap bl bb bt : Nat} {o g : Option Nat} {D : List Nat} {w : World} (hD : D.Perm (oth ln ln.length)) (h : Core w0 A ln cap bl bb bt o g ((basicOf ln).map UInt8.ofNat ++ (if (basicOf ln).length = 0 then [] else [45])) (bas ln ln.length) w)
    (hc : ∀ (j x : Nat), D[j]? = some x → ∃ gk, g = some gk ∧ w.cell? ⟨gk, j, none⟩ = some (.int .i64 (x : Int))) : Loop2 w0 A ln cap bl bb bt o g D 0 128 0 72 (bas ln ln.length) [] w :=
  ⟨by rw [List.append_nil]; exact h, hc, Run.start ln, Left.start hD, bas_all ln hD, cnt_bas ln, by omega, by omega, by omega, by simp⟩
/-- A turn of the second loop. -/
theorem Loop2.next {w0 : World} {A : Option Addr} {ln : List Nat} {cap bl bb bt : Nat} {o o' g : Option Nat} {D : List Nat} {t n i bias p d : Nat} {M : Nat → Bool} {T : List UInt8} {w w1 w2 : World} (h : Loop2 w0 A ln cap bl bb bt o g D t n i bias M T w) (hs : Srt (fun x => (ln.getD x 0 : Int)) D) (hlt : t < D.length) (hp : D[t] = p) (hl : ln.length ≤ 250) (hsc : ∀ c ∈ ln, sc c = true)
    (hd : d = (ln.getD p 0 - n) * (cnt M ln.length + 1) + cnt M p - i) (hd9 : d < 1000000000)
    (hb1 : BldO bb o' ((basicOf ln).map UInt8.ofNat ++ (if (basicOf ln).length = 0 then [] else [45]) ++ T ++ tellK d bias 36) w1) (hb2 : OAt w o o') (hb3 : Kept (bb :: o.toList) w w1) (ht1 : Tally bt ln.length (Go.Proofs.YtfaieldafoeaiaaDoor.mark M p) w2) (ht2 : Kept [bt] w1 w2) :
    Loop2 w0 A ln cap bl bb bt o' g D (t + 1) (ln.getD p 0) (cnt M p + 1) (adapt d ((basicOf ln).length + t + 1) (t == 0)) (Go.Proofs.YtfaieldafoeaiaaDoor.mark M p) (T ++ tellK d bias 36) w2 := by
  have hdrop : D.drop t = p :: D.drop (t + 1) := by rw [List.drop_eq_getElem_cons hlt, hp]
  have hleft := h.left
  rw [hdrop] at hleft
  have hsd : Srt (fun x => (ln.getD x 0 : Int)) (p :: D.drop (t + 1)) := by rw [← hdrop]; exact srt_drop hs t
  obtain ⟨q1, q2, q3, q4⟩ := hleft p (List.mem_cons_self ..)
  have hc1 := h.core.put hb1 hb2 hb3
  have hr := h.run.next hleft hd
  have hbt : ((basicOf ln).length + t == (basicOf ln).length) = (t == 0) := by
    by_cases e : t = 0
    · subst e; simp
    · rw [beq_eq_false_iff_ne.2 e, beq_eq_false_iff_ne.2 (by omega)]
  rw [hbt] at hr
  obtain ⟨r1, r2, r3, r4⟩ := h.bounds
  have hcn := h.count
  have hcp : cnt M p ≤ cnt M ln.length := cnt_mono M (by omega)
  have hclen := cnt_le M ln.length
  refine ⟨?_, ?_, hr, hleft.next hsd, ?_, ?_, ?_, by omega, ?_, ?_⟩
  · rw [← List.append_assoc]
    exact hc1.mark ht1 ht2
  · exact hc1.row_cell (h.core.row_cell h.cell hb3 h.core.g_bld) ht2 hc1.g_tal
  · intro q hq
    rcases h.all q hq with e | e
    · exact .inl (by show (M q || q == p) = true; rw [e]; rfl)
    · rw [hdrop] at e
      rcases List.mem_cons.1 e with rfl | e
      · exact .inl (by show (M q || q == q) = true; simp)
      · exact .inr e
  · rw [cnt_mark M p q2, if_pos q1, hcn]; omega
  · rw [getD_at q1]
    have := sc_lt (hsc _ (List.getElem_mem q1))
    omega
  · have := adapt_le d ((basicOf ln).length + t + 1) (t == 0)
    omega
  · have := tellK_log bias 9 d 36 (by simpa using hd9)
    rw [List.length_append]
    omega

theorem ints_getD (ln : List Nat) : (fun x => (ints ln).getD x 0) = fun x => ((ln.getD x 0 : Nat) : Int) := by
  funext x
  simp only [ints, List.getD_eq_getElem?_getD, List.getElem?_map]
  cases ln[x]? <;> rfl
/-- The sort of the others, and what the second loop starts with. -/
theorem enc_sort {w0 : World} {A : Option Addr} {ln : List Nat} {cap bl bb bt : Nat} {o g : Option Nat} {v : Value} {w : World} (h : Core w0 A ln cap bl bb bt o g ((basicOf ln).map UInt8.ofNat ++ (if (basicOf ln).length = 0 then [] else [45])) (bas ln ln.length) w)
    (hr : RowO v (oth ln ln.length) g w) (hl : ln.length ≤ 250) : ∃ A6 c6, v = .slice A6 (oth ln ln.length).length c6 ∧ (∀ gk, g = some gk → A6 = some ⟨gk, 0, none⟩) ∧
    Calls Tryd.prog 50 #[.slice A6 (oth ln ln.length).length c6, .func (.func 51) #[] #[.pointer (some ⟨bl, 0, none⟩)]] w fun e w5 => e = .returned (.tuple #[]) ∧
      ∃ D, D.length = (oth ln ln.length).length ∧ Srt (fun x => (ln.getD x 0 : Int)) D ∧ Loop2 w0 A ln cap bl bb bt o g D 0 128 0 72 (bas ln ln.length) [] w5 := by
  rcases hr.shape with ⟨rfl, hO⟩ | ⟨gk, c6, rfl, rfl, hrow⟩
  · have hg : g = none := hr.2.symm
    refine ⟨none, 0, by rw [hO]; rfl, by rw [hg]; simp, ?_⟩
    rw [hO]
    refine (sort_none bl 0 none w).mono ?_
    rintro e w5 ⟨rfl, rfl⟩
    refine ⟨rfl, [], rfl, List.Pairwise.nil, Loop2.start (by rw [hO]) h (by simp)⟩
  · refine ⟨some ⟨gk, 0, none⟩, c6, rfl, by rintro gk' e; cases e; rfl, ?_⟩
    obtain ⟨s1, s2, s3, s4, s5, s6⟩ := h.gsep gk rfl
    have hC := q2_any bl A (ints ln) cap gk w (by rw [ints_length]; exact h.box) h.base.2.2.2.1 (Ne.symm s3) (h.runes.below h.below) (fun j c hj => by
      obtain ⟨b, off, e, hb, _⟩ := h.runes j c hj
      exact ⟨b, off, e, by omega⟩)
    rw [ints_length, ints_getD] at hC
    have hol := oth_le ln ln.length
    refine (sort_any _ bl gk c6 (oth ln ln.length).length ln.length (oth ln ln.length) w w (Lib.hid hC) (fun x hx => (oth_mem.1 hx).1) rfl (by omega) (oth_sorted ln ln.length) hrow).mono ?_
    rintro e w5 ⟨rfl, D, hD1, hD2, hD3⟩
    exact ⟨rfl, D, hD1.length_eq, hD2, Loop2.start hD1 (h.row hD3.kept (.inl rfl)) (fun j x hj => ⟨gk, rfl, hD3.c hj⟩)⟩
end Go.Proofs.YtfaieldafoeaiaaDoor

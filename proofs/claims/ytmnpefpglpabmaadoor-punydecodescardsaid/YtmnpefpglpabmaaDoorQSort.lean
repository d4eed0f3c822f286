/-
  slices.SortStableFunc at the program's comparison: the row's words, the comparison, swapRange.
-/
import Derived.Test.YtmnpefpglpabmaaDoorQKept
import Derived.Test.YtmnpefpglpabmaaDoorQSortM
import Derived.Shelf.RegionOpenPlain
namespace Go.Proofs.YtmnpefpglpabmaaDoor
open Go.RowKit

/-- The row of places in block blk, behind some steps. -/
structure RowAt (blk : Nat) (d : List Nat) (w0 W : World) : Prop where
  lt : blk < w0.heap.size
  kept : Kept [blk] w0 W
  cell : ∀ (i x : Nat), d[i]? = some x → W.cell? ⟨blk, i, none⟩ = some (.int .i64 (x : Int)) ∧ W.frozen? ⟨blk, i, none⟩ = false

theorem RowAt.drewN {blk : Nat} {d : List Nat} {w0 W : World} (h : RowAt blk d w0 W) (n : Nat) : RowAt blk d w0 (W.drewN n) := ⟨h.lt, h.kept.drewN n, h.cell⟩
theorem RowAt.c {blk : Nat} {d : List Nat} {w0 W : World} (h : RowAt blk d w0 W) {i x : Nat} (hi : d[i]? = some x) : W.cell? ⟨blk, i, none⟩ = some (.int .i64 (x : Int)) := (h.cell i x hi).1
theorem RowAt.f {blk : Nat} {d : List Nat} {w0 W : World} (h : RowAt blk d w0 W) {i x : Nat} (hi : d[i]? = some x) : W.frozen? ⟨blk, i, none⟩ = false := (h.cell i x hi).2
/-- One cell written. -/
theorem RowAt.put {blk : Nat} {d : List Nat} {w0 W : World} (h : RowAt blk d w0 W) {i : Nat} (hi : i < d.length) (y : Nat) : RowAt blk (d.set i y) w0 (W.setCell ⟨blk, i, none⟩ (.int .i64 (y : Int))) := by
  refine ⟨h.lt, h.kept.setCell (p := ⟨blk, i, none⟩) (.inl (by simp)) _, fun j x hj => ?_⟩
  rw [World.frozen?_setCell]
  have hjl : j < d.length := by have := (List.getElem?_eq_some_iff.1 hj).1; simpa using this
  refine ⟨?_, (h.cell j d[j] (List.getElem?_eq_getElem hjl)).2⟩
  by_cases e : i = j
  · subst e
    rw [List.getElem?_set_self hi] at hj
    cases hj
    exact World.cell?_setCell_same' _ _ _ (by rw [(h.cell i d[i] (List.getElem?_eq_getElem hi)).1]; rfl)
  · rw [List.getElem?_set_ne e] at hj
    rw [World.cell?_setCell_other _ _ _ _ (by intro e'; simp only [Addr.mk.injEq] at e'; omega)]
    exact (h.cell j x hj).1
theorem set_two (P Q S : List Nat) (x y : Nat) : (((P ++ x :: (Q ++ y :: S)).set P.length y).set (P.length + 1 + Q.length) x) = P ++ y :: (Q ++ x :: S) := by
  rw [List.set_append_right _ _ (Nat.le_refl _), Nat.sub_self, List.set_cons_zero, List.set_append_right _ _ (by omega), show P.length + 1 + Q.length - P.length = Q.length + 1 by omega, List.set_cons_succ, List.set_append_right _ _ (Nat.le_refl _), Nat.sub_self, List.set_cons_zero]
theorem set_two' (P Q S : List Nat) (x y : Nat) : (((P ++ x :: (Q ++ y :: S)).set (P.length + 1 + Q.length) x).set P.length y) = P ++ y :: (Q ++ x :: S) := by
  rw [List.set_comm _ _ (by omega)]; exact set_two P Q S x y
theorem get_one (P Q S : List Nat) (x y : Nat) : (P ++ x :: (Q ++ y :: S))[P.length]? = some x := by simp
theorem get_two (P Q S : List Nat) (x y : Nat) : (P ++ x :: (Q ++ y :: S))[P.length + 1 + Q.length]? = some y := by
  rw [List.getElem?_append_right (by omega), show P.length + 1 + Q.length - P.length = Q.length + 1 by omega, List.getElem?_cons_succ, List.getElem?_append_right (Nat.le_refl _)]; simp
/-- Two cells exchanged. -/
theorem RowAt.swap {blk : Nat} {P Q S : List Nat} {x y : Nat} {w0 W : World} {i j : Nat} (h : RowAt blk (P ++ x :: (Q ++ y :: S)) w0 W) (hi : i = P.length) (hj : j = P.length + 1 + Q.length) :
    RowAt blk (P ++ y :: (Q ++ x :: S)) w0 ((W.setCell ⟨blk, i, none⟩ (.int .i64 (y : Int))).setCell ⟨blk, j, none⟩ (.int .i64 (x : Int))).drew := by
  subst hi; subst hj
  have := (h.put (i := P.length) (by simp) y).put (i := P.length + 1 + Q.length) (by simp; omega) x
  rw [set_two] at this
  exact this.drewN 1
theorem RowAt.swap' {blk : Nat} {P Q S : List Nat} {x y : Nat} {w0 W : World} {i j : Nat} (h : RowAt blk (P ++ x :: (Q ++ y :: S)) w0 W) (hi : i = P.length) (hj : j = P.length + 1 + Q.length) :
    RowAt blk (P ++ y :: (Q ++ x :: S)) w0 ((W.setCell ⟨blk, j, none⟩ (.int .i64 (x : Int))).setCell ⟨blk, i, none⟩ (.int .i64 (y : Int))).drew := by
  subst hi; subst hj
  have := (h.put (i := P.length + 1 + Q.length) (by simp; omega) x).put (i := P.length) (by simp) y
  rw [set_two'] at this
  exact this.drewN 1
/-- What is asked of the comparison. -/
def CmpOk (key : Nat → Int) (N blk bl : Nat) (w0 : World) : Prop :=
  ∀ (W : World) (x y : Nat), Kept [blk] w0 W → x < N → y < N → Calls Tryd.prog 21 #[.int .i64 (x : Int), .int .i64 (y : Int), .pointer (some ⟨bl, 0, none⟩)] W fun e w' => e = .returned (.int .i64 (cmpI (key x) (key y))) ∧ ∃ q, w' = W.drewN q

theorem qcmp_q (a b : Int) (w : World) :
    Calls Tryd.prog 22 #[.int .i32 a, .int .i32 b] w fun e w' => e = .returned (.int .i64 (cmpI a b)) ∧ w' = w := (qcmp_any a b w).mono fun _ _ ⟨he, hw⟩ => ⟨he, hw.symm⟩
theorem keyAt (l : List Int) {x : Nat} (hx : x < l.length) : l[x]? = some (l.getD x 0) := by
  rw [List.getElem?_eq_getElem hx, List.getD_eq_getElem?_getD, List.getElem?_eq_getElem hx]; rfl
set_option maxHeartbeats 400000 in
theorem q2_any (bl : Nat) (A : Option Addr) (l : List Int) (cap : Nat) (blk : Nat) (w0 : World) (hbox : w0.cell? ⟨bl, 0, none⟩ = some (.slice A l.length cap)) (hbl : bl < w0.heap.size) (hne : bl ≠ blk) (hR : Runes w0 A l)
    (hA : ∀ (i : Nat) (c : Int), l[i]? = some c → ∃ b off, A = some ⟨b, off, none⟩ ∧ b ≠ blk) : CmpOk (fun x => l.getD x 0) l.length blk bl w0 := by
  intro W x y hk hx hy
  have hc : W.cell? ⟨bl, 0, none⟩ = some (.slice A l.length cap) := (hk.cell (p := ⟨bl, 0, none⟩) hbl (by simpa using hne)).trans hbox
  obtain ⟨b, off, rfl, hlt, hcx⟩ := hR x _ (keyAt l hx)
  obtain ⟨b', off', e, _, hcy⟩ := hR y _ (keyAt l hy)
  cases e
  obtain ⟨b'', off'', e'', hbn⟩ := hA x _ (keyAt l hx)
  cases e''
  have hcx' : W.cell? ⟨b, off + x, none⟩ = some (.int .i32 (l.getD x 0)) := (hk.cell (p := ⟨b, off + x, none⟩) hlt (by simpa using hbn)).trans hcx
  have hcy' : W.cell? ⟨b, off + y, none⟩ = some (.int .i32 (l.getD y 0)) := (hk.cell (p := ⟨b, off + y, none⟩) hlt (by simpa using hbn)).trans hcy
  obtain ⟨u, hu⟩ : ∃ u, l.getD x 0 = u := ⟨_, rfl⟩
  obtain ⟨v, hv⟩ : ∃ u, l.getD y 0 = u := ⟨_, rfl⟩
  simp only [hu, hv] at hcx' hcy' ⊢
  clear hcx hcy hR hbox hk hA hu hv
  have hxi : (x : Int) < (l.length : Int) := by omega
  have hyi : (y : Int) < (l.length : Int) := by omega
  go_enter Tryd.func21, Tryd.ntmps21
  go_wp2_with fail
  go_quiet ((go_at_call 22; exact Calls.quiet_of_same (qcmp_q _ _ _)))
  go_wp2
  go_ret
  exact ⟨rfl, _, rfl⟩

theorem mid_cons {A : List Nat} {i : Nat} (h : i < A.length) : A.drop i = A[i] :: A.drop (i + 1) := List.drop_eq_getElem_cons h
theorem take_app {A : List Nat} {i : Nat} (h : i < A.length) : A.take (i + 1) = A.take i ++ [A[i]] := List.take_succ_eq_append_getElem h

set_option maxHeartbeats 1000000 in
set_option maxRecDepth 100000 in
theorem swapRange_any (bl blk cap : Nat) (X A M B Y : List Nat) (a b n : Nat) (w0 w : World) (ha : a = X.length) (hA : A.length = n) (hB : B.length = n) (hb : b = a + n + M.length) (hl : X.length + A.length + M.length + B.length + Y.length ≤ 1000)
    (h : RowAt blk (X ++ A ++ M ++ B ++ Y) w0 w) :
    Calls Tryd.prog 72 #[.slice (some ⟨blk, 0, none⟩) (X.length + A.length + M.length + B.length + Y.length) cap, .int .i64 a, .int .i64 b, .int .i64 n, .func (.func 21) #[] #[.pointer (some ⟨bl, 0, none⟩)]] w fun e w' =>
      e = .returned (.tuple #[]) ∧ RowAt blk (X ++ B ++ M ++ A ++ Y) w0 w' := by
  have HH := Lib.hid h
  obtain ⟨N, hN⟩ : ∃ N, X.length + A.length + M.length + B.length + Y.length = N := ⟨_, rfl⟩
  have hbN : b + n ≤ N := by omega
  rw [hN]
  have hN1 : N ≤ 1000 := by omega
  have hab : a + n ≤ b := by omega
  clear h hl
  have HX : Hid (a = X.length ∧ A.length = n ∧ B.length = n ∧ b = a + n + M.length) := ⟨ha, hA, hB, hb⟩
  clear ha hA hB hb hN
  go_enter Tryd.func72, Tryd.ntmps72
  go_wp2
  go_loopw [10] (fun s wr => ∃ i : Nat, s = .int .i64 i ∧ i ≤ n ∧ RowAt blk (X ++ (B.take i ++ A.drop i) ++ M ++ (A.take i ++ B.drop i) ++ Y) w0 wr) (fun s _ => n - (intOf s).toNat)
  case atStart => exact ⟨0, rfl, by omega, by simpa using HH.out⟩
  case round =>
    obtain ⟨i, rfl, hi, hr⟩ := hrel
    by_cases hlt : i < n
    · obtain ⟨hx1, hx2, hx3, hx4⟩ := HX.out
      have e : X ++ (B.take i ++ A.drop i) ++ M ++ (A.take i ++ B.drop i) ++ Y = (X ++ B.take i) ++ A[i] :: ((A.drop (i + 1) ++ M ++ A.take i) ++ B[i] :: (B.drop (i + 1) ++ Y)) := by
        rw [mid_cons (A := A) (i := i) (by omega), mid_cons (A := B) (i := i) (by omega)]; simp only [List.append_assoc, List.cons_append]
      have e2 : X ++ (B.take (i + 1) ++ A.drop (i + 1)) ++ M ++ (A.take (i + 1) ++ B.drop (i + 1)) ++ Y = (X ++ B.take i) ++ B[i] :: ((A.drop (i + 1) ++ M ++ A.take i) ++ A[i] :: (B.drop (i + 1) ++ Y)) := by
        rw [take_app (A := A) (i := i) (by omega), take_app (A := B) (i := i) (by omega)]; simp only [List.append_assoc, List.cons_append, List.nil_append]
      have hi1 : a + i = (X ++ B.take i).length := by simp; omega
      have hj1 : b + i = (X ++ B.take i).length + 1 + (A.drop (i + 1) ++ M ++ A.take i).length := by simp; omega
      obtain ⟨x, hx⟩ : ∃ x, A[i] = x := ⟨_, rfl⟩
      obtain ⟨y, hy⟩ : ∃ y, B[i] = y := ⟨_, rfl⟩
      rw [hx, hy] at e e2
      rw [e] at hr
      have c1 := hr.c (i := a + i) (x := x) (by rw [hi1]; exact get_one _ _ _ _ _)
      have c2 := hr.c (i := b + i) (x := y) (by rw [hj1]; exact get_two _ _ _ _ _)
      have f1 := hr.f (i := a + i) (x := x) (by rw [hi1]; exact get_one _ _ _ _ _)
      have f2 := hr.f (i := b + i) (x := y) (by rw [hj1]; exact get_two _ _ _ _ _)
      have HS := Lib.hid (hr.swap hi1 hj1)
      rw [← e2] at HS
      clear hr e e2 hi1 hj1 hx hy hx1 hx2 hx3 hx4
      have c3 : (wr.setCell ⟨blk, a + i, none⟩ (.int .i64 (y : Int))).cell? ⟨blk, b + i, none⟩ = some (.int .i64 (y : Int)) := by
        rw [World.cell?_setCell_other _ _ _ _ (by intro e'; simp only [Addr.mk.injEq] at e'; omega)]; exact c2
      go_wp2_with fail
      go_big_region
      clear c1 c2 c3 f1 f2
      generalize ((wr.setCell ⟨blk, a + i, none⟩ (.int .i64 (y : Int))).setCell ⟨blk, b + i, none⟩ (.int .i64 (x : Int))).drew = w3 at HS ⊢
      go_wp2
      go_roundw
      case rel => exact ⟨i + 1, by go_num, by omega, HS.out⟩
      case measure => simp [intOf]; omega
    · have HR : Hid (RowAt blk (X ++ B ++ M ++ A ++ Y) w0 wr) := by
        obtain ⟨hx1, hx2, hx3, hx4⟩ := HX.out
        obtain rfl : i = n := by omega
        show RowAt blk (X ++ B ++ M ++ A ++ Y) w0 wr
        rw [List.take_of_length_le (by omega), List.take_of_length_le (by omega), List.drop_eq_nil_of_le (by omega), List.drop_eq_nil_of_le (by omega), List.append_nil, List.append_nil] at hr
        exact hr
      clear hr HX HH
      go_wp2
      go_end0
      exact ⟨rfl, HR.out⟩
end Go.Proofs.YtmnpefpglpabmaaDoor

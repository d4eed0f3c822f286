/-
  slices.SortStableFunc at the program's comparison: the insertion sort of one block.
-/
import Derived.Test.YtmnpefpglpabmaaQRot
namespace Go.Proofs.Ytmnpefpglpabmaa
open Go.RowKit

theorem cmpI_neg {a b : Int} (h : a < b) : decide (cmpI a b < 0) = true := by unfold cmpI; rw [if_pos h]; rfl
theorem cmpI_not {a b : Int} (h : ¬ a < b) : decide (cmpI a b < 0) = false := by unfold cmpI; rw [if_neg h]; split <;> rfl
theorem CmpOk.lt {key : Nat → Int} {N blk bl : Nat} {w0 : World} (h : CmpOk key N blk bl w0) {W : World} {x y : Nat} (hk : Kept [blk] w0 W) (hx : x < N) (hy : y < N) (n : Nat) :
    Calls Try.prog 21 #[.int .i64 (x : Int), .int .i64 (y : Int), .pointer (some ⟨bl, 0, none⟩)] (W.drewN n) fun e w'' => e = .returned (.int .i64 (cmpI (key x) (key y))) ∧ ∃ m, w'' = W.drewN m :=
  Calls.quiet_of (h (W.drewN n) x y (hk.drewN n) hx hy)

set_option maxHeartbeats 1000000 in
set_option maxRecDepth 100000 in
theorem ins_any (key : Nat → Int) (bl blk cap N M : Nat) (X A Y : List Nat) (a b : Nat) (w0 w : World) (HC : Hid (CmpOk key M blk bl w0)) (hM : ∀ x ∈ A, x < M) (ha : a = X.length) (hb : b = a + A.length) (hN : N = b + Y.length) (hl : N ≤ 1000)
    (hA : A.Pairwise (· < ·)) (h : RowAt blk (X ++ A ++ Y) w0 w) :
    Calls Try.prog 47 #[.slice (some ⟨blk, 0, none⟩) N cap, .int .i64 a, .int .i64 b, .func (.func 21) #[] #[.pointer (some ⟨bl, 0, none⟩)]] w fun e w' =>
      e = .returned (.tuple #[]) ∧ ∃ C, C.Perm A ∧ Srt key C ∧ RowAt blk (X ++ C ++ Y) w0 w' := by
  have HH := Lib.hid h
  clear h
  have hab : a ≤ b := by omega
  have hbN : b ≤ N := by omega
  have HX : Hid (a = X.length ∧ b = a + A.length ∧ N = b + Y.length) := ⟨ha, hb, hN⟩
  have HA := Lib.hid (And.intro hM hA)
  clear ha hb hN hA hM
  go_enter Try.func47, Try.ntmps47
  go_wp2
  go_loopw [8] (fun s wr => ∃ (i : Nat) (S R : List Nat), s = .int .i64 i ∧ a < i ∧ i ≤ b + 1 ∧ ((i ≤ b ∧ a + S.length = i ∧ i + R.length = b) ∨ (i = b + 1 ∧ R = [] ∧ S = [])) ∧ Srt key S ∧ (S ++ R).Perm A ∧ (∃ T, A = T ++ R ∧ S.Perm T) ∧ RowAt blk (X ++ S ++ R ++ Y) w0 wr) (fun s _ => b + 1 - (intOf s).toNat)
  case atStart =>
    obtain ⟨h1, h2, h3⟩ := HX.out
    cases A with
    | nil => exact ⟨a + 1, [], [], by go_num, by omega, by omega, .inr ⟨by simp at h2; omega, rfl, rfl⟩, List.Pairwise.nil, List.Perm.refl _, ⟨[], rfl, List.Perm.refl _⟩, by simpa using HH.out⟩
    | cons x A => exact ⟨a + 1, [x], A, by go_num, by omega, by simp at h2; omega, .inl ⟨by simp at h2; omega, by simp, by simp at h2; omega⟩, List.pairwise_singleton _ _, List.Perm.refl _, ⟨[x], rfl, List.Perm.refl _⟩, by simpa using HH.out⟩
  case round =>
    obtain ⟨i, S, R, rfl, hai, hib, hshape, hS, hp, hT, hr⟩ := hrel
    clear HH
    by_cases hlt : i < b
    · obtain ⟨hsl, hrl⟩ : a + S.length = i ∧ i + R.length = b := by
        rcases hshape with ⟨_, h1, h2⟩ | ⟨h1, _⟩
        · exact ⟨h1, h2⟩
        · omega
      clear hshape
      obtain ⟨e, R', rfl⟩ : ∃ e R', R = e :: R' := by
        cases R with
        | nil => simp at hrl; omega
        | cons e R' => exact ⟨e, R', rfl⟩
      rw [List.length_cons] at hrl
      obtain ⟨T, hAT, hST⟩ := hT
      have HSe : Hid (∀ x ∈ S, x < e) := by
        intro x hx
        have := HA.out.2
        rw [hAT] at this
        exact (List.pairwise_append.1 this).2.2 x (hST.subset hx) e (by simp)
      have HM1 : Hid (∀ x ∈ S, x < M) := fun x hx => HA.out.1 x (by rw [hAT]; exact List.mem_append_left _ (hST.subset hx))
      have heM : e < M := HA.out.1 e (by rw [hAT]; simp)
      have HS := Lib.hid hS
      have HP := Lib.hid hp
      have HAT := Lib.hid (And.intro hAT hST)
      have HL : Hid (a + S.length = i ∧ i + (R'.length + 1) = b) := ⟨hsl, hrl⟩
      have HR := Lib.hid hr
      clear hS hp hAT hST hsl hrl hr
      go_wp2
      go_loopw [9] (fun s wr2 => ∃ (j : Nat) (S1 S2 : List Nat), s = .int .i64 j ∧ a ≤ j ∧ j ≤ i ∧ S = S1 ++ S2 ∧ a + S1.length = j ∧ (∀ y ∈ S2, prec key e y) ∧ RowAt blk (X ++ S1 ++ e :: S2 ++ R' ++ Y) w0 wr2) (fun s _ => (intOf s).toNat)
      case atStart => exact ⟨i, S, [], rfl, by omega, Nat.le_refl _, by simp, HL.out.1, by simp, by simpa using HR.out⟩
      case round =>
        obtain ⟨j, S1, S2, rfl, haj, hji, hS12, hj1, hgt, hr2⟩ := hrel
        clear HR
        have HS12 := Lib.hid (And.intro hS12 (And.intro hj1 hgt))
        clear hS12 hj1 hgt
        have OUT : Hid ((j ≤ a ∨ ∃ S1' z, S1 = S1' ++ [z] ∧ key z ≤ key e) → Srt key (S1 ++ e :: S2)) := by
          intro hc
          obtain ⟨h1, h2, h3⟩ := HS12.out
          have hss := HS.out
          rw [h1] at hss
          obtain ⟨q1, q2, q3⟩ := List.pairwise_append.1 hss
          have hall : ∀ x ∈ S1, prec key x e := by
            rcases hc with hc | ⟨S1', z, hz, hn⟩
            · obtain rfl : S1 = [] := List.eq_nil_of_length_eq_zero (by omega)
              simp
            · have hze : prec key z e := prec_cross' (HSe.out z (by rw [h1, hz]; simp)) (Int.not_lt.2 hn)
              intro x hx
              rw [hz] at hx q1
              rcases List.mem_append.1 hx with hx | hx
              · exact prec_trans ((List.pairwise_append.1 q1).2.2 x hx z (by simp)) hze
              · simp at hx; subst hx; exact hze
          refine srt_append q1 (List.pairwise_cons.2 ⟨h3, q2⟩) ?_
          intro x hx y hy
          rcases List.mem_cons.1 hy with rfl | hy
          · exact hall x hx
          · exact q3 x hx y hy
        have OUT2 : Hid (∀ wr3, RowAt blk (X ++ S1 ++ e :: S2 ++ R' ++ Y) w0 wr3 → Srt key (S1 ++ e :: S2) → ∃ (i' : Nat) (S' R'' : List Nat), Value.int .i64 ((i : Int) + 1) = .int .i64 i' ∧ a < i' ∧ i' ≤ b + 1 ∧ ((i' ≤ b ∧ a + S'.length = i' ∧ i' + R''.length = b) ∨ (i' = b + 1 ∧ R'' = [] ∧ S' = [])) ∧ Srt key S' ∧ (S' ++ R'').Perm A ∧ (∃ T, A = T ++ R'' ∧ S'.Perm T) ∧ RowAt blk (X ++ S' ++ R'' ++ Y) w0 wr3) := by
          intro wr3 h4 h5
          obtain ⟨h1, h2, h3⟩ := HS12.out
          obtain ⟨g1, g2⟩ := HL.out
          rw [h1, List.length_append] at g1
          have hpm : (S1 ++ e :: S2).Perm (S ++ [e]) := by
            rw [h1]
            exact List.perm_middle.trans (List.perm_append_singleton e (S1 ++ S2)).symm
          refine ⟨i + 1, S1 ++ e :: S2, R', by go_num, by omega, by omega, .inl ⟨by omega, by simp; omega, by omega⟩, h5, ?_, ⟨T ++ [e], by rw [HAT.out.1]; simp, hpm.trans (HAT.out.2.append_right _)⟩, by simpa using h4⟩
          refine (hpm.append_right R').trans ?_
          simpa using HP.out
        by_cases hja : a < j
        · obtain ⟨S1', z, rfl⟩ : ∃ S1' z, S1 = S1' ++ [z] := by
            rcases List.eq_nil_or_concat S1 with h0 | ⟨S1', z, h0⟩
            · have := HS12.out.2.1; rw [h0] at this; simp at this; omega
            · exact ⟨S1', z, by simpa using h0⟩
          have hi1 : j - 1 = (X ++ S1').length := by have h1 := HX.out.1; have h2 := HS12.out.2.1; simp at h2 ⊢; omega
          have hj1 : j = (X ++ S1').length + 1 + ([] : List Nat).length := by simp only [List.length_nil]; omega
          have e1 : X ++ (S1' ++ [z]) ++ e :: S2 ++ R' ++ Y = (X ++ S1') ++ z :: ([] ++ e :: (S2 ++ R' ++ Y)) := by simp
          have hzM : z < M := HM1.out z (by rw [HS12.out.1]; simp)
          obtain ⟨jp, hjp⟩ : ∃ q, q = j - 1 := ⟨_, rfl⟩
          have hr3 := hr2
          rw [e1] at hr3
          have c1 := hr3.c (i := jp) (x := z) (by rw [hjp, hi1]; exact get_one _ _ _ _ _)
          have c2 := hr3.c (i := j) (x := e) (by rw [hj1]; exact get_two _ _ _ _ _)
          have f1 := hr3.f (i := jp) (x := z) (by rw [hjp, hi1]; exact get_one _ _ _ _ _)
          have f2 := hr3.f (i := j) (x := e) (by rw [hj1]; exact get_two _ _ _ _ _)
          have HR3 := Lib.hid hr3
          have HQ : Hid (j - 1 = (X ++ S1').length ∧ j = (X ++ S1').length + 1 + ([] : List Nat).length) := ⟨hi1, hj1⟩
          have hC := fun n => HC.out.lt hr2.kept heM hzM n
          have HR2 := Lib.hid hr2
          clear hr2 hr3 e1 hi1 hj1
          obtain rfl : j = jp + 1 := by omega
          clear hjp
          have hjad : decide ((jp : Int) + 1 > (a : Int)) = true := decide_eq_true (by omega)
          by_cases hk : key e < key z
          · have hd := cmpI_neg hk
            obtain ⟨cv, hcv⟩ : ∃ cv, cmpI (key e) (key z) = cv := ⟨_, rfl⟩
            rw [hcv] at hd
            simp only [hcv] at hC
            have hcv0 : cv < 0 := of_decide_eq_true hd
            clear hcv
            have HK := Lib.hid hk
            clear hk
            go_wp2_with fail
            go_quiet ((go_at_call 21; exact hC _))
            have HR4 := Lib.hid (HR3.out.drewN nq)
            have k1 : (wr.drewN nq).cell? ⟨blk, jp, none⟩ = some (.int .i64 (z : Int)) := c1
            have k2 : (wr.drewN nq).cell? ⟨blk, jp + 1, none⟩ = some (.int .i64 (e : Int)) := c2
            have g1 : (wr.drewN nq).frozen? ⟨blk, jp, none⟩ = false := f1
            have g2 : (wr.drewN nq).frozen? ⟨blk, jp + 1, none⟩ = false := f2
            clear hC HR3 HR2 c1 c2 f1 f2
            generalize wr.drewN nq = w2 at HR4 k1 k2 g1 g2 ⊢
            have c3 : (w2.setCell ⟨blk, jp + 1, none⟩ (.int .i64 (z : Int))).cell? ⟨blk, jp, none⟩ = some (.int .i64 (z : Int)) := by
              rw [World.cell?_setCell_other _ _ _ _ (by intro e'; simp only [Addr.mk.injEq] at e'; omega)]; exact k1
            have HS4 : Hid (RowAt blk ((X ++ S1') ++ e :: ([] ++ z :: (S2 ++ R' ++ Y))) w0 ((w2.setCell ⟨blk, jp + 1, none⟩ (.int .i64 (z : Int))).setCell ⟨blk, jp, none⟩ (.int .i64 (e : Int))).drew) := HR4.out.swap' (by have := HQ.out.1; omega) HQ.out.2
            clear HR4
            go_wp2_with fail
            go_big_region
            clear k1 k2 c3 g1 g2
            generalize ((w2.setCell ⟨blk, jp + 1, none⟩ (.int .i64 (z : Int))).setCell ⟨blk, jp, none⟩ (.int .i64 (e : Int))).drew = w3 at HS4 ⊢
            go_wp2
            go_roundw
            case rel =>
              obtain ⟨h1, h2, h3⟩ := HS12.out
              refine ⟨jp, S1', z :: S2, by go_num, by omega, by omega, by rw [h1]; simp, by simp at h2; omega, ?_, by simpa using HS4.out⟩
              intro y hy
              have hez : prec key e z := (prec_cross (HSe.out z (by rw [h1]; simp))).1 HK.out
              rcases List.mem_cons.1 hy with rfl | hy
              · exact hez
              · exact h3 y hy
            case measure => simp [intOf]
          · have hd := cmpI_not hk
            obtain ⟨cv, hcv⟩ : ∃ cv, cmpI (key e) (key z) = cv := ⟨_, rfl⟩
            rw [hcv] at hd
            simp only [hcv] at hC
            have hcv0 : ¬ cv < 0 := of_decide_eq_false hd
            clear hcv
            have HK : Hid (key z ≤ key e) := Int.not_lt.1 hk
            clear hk
            go_wp2_with fail
            go_quiet ((go_at_call 21; exact hC _))
            have HR4 := Lib.hid (HR2.out.drewN nq)
            clear hC HR3 HR2 c1 c2 f1 f2
            generalize wr.drewN nq = w2 at HR4 ⊢
            go_wp2
            go_roundw
            case rel => exact OUT2.out _ HR4.out (OUT.out (.inr ⟨S1', z, rfl, HK.out⟩))
            case measure => simp [intOf]; omega
        · have hjaz : decide ((j : Int) > (a : Int)) = false := decide_eq_false (by omega)
          have hjaz' : ¬ (a : Int) < (j : Int) := by omega
          have HR4 : Hid (RowAt blk (X ++ S1 ++ e :: S2 ++ R' ++ Y) w0 wr.drew) := hr2.drewN 1
          clear hr2
          go_wp2_with fail
          go_big_region
          generalize wr.drew = w2 at HR4 ⊢
          go_wp2
          go_roundw
          case rel => exact OUT2.out _ HR4.out (OUT.out (.inl (by omega)))
          case measure => simp [intOf]; omega
    · have HF : Hid (∃ C, C.Perm A ∧ Srt key C ∧ RowAt blk (X ++ C ++ Y) w0 wr) := by
        rcases hshape with ⟨h1, h2, h3⟩ | ⟨h1, h2, h3⟩
        · obtain rfl : R = [] := List.eq_nil_of_length_eq_zero (by omega)
          exact ⟨S, by simpa using hp, hS, by simpa using hr⟩
        · subst h2; subst h3
          exact ⟨[], hp, hS, by simpa using hr⟩
      clear hshape hS hp hT hr
      go_wp2
      go_end0
      exact ⟨rfl, HF.out⟩
end Go.Proofs.Ytmnpefpglpabmaa

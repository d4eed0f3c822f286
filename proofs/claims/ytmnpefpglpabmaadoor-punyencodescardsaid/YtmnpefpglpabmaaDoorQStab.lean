/-
  slices.SortStableFunc at the program's comparison.
-/
import Derived.Test.YtmnpefpglpabmaaDoorQSym2
namespace Go.Proofs.YtmnpefpglpabmaaDoor
open Go.RowKit

theorem sym_any (key : Nat → Int) (bl blk cap N M : Nat) (w0 : World) (HC : Hid (CmpOk key M blk bl w0)) : ∀ (f : Nat) (X A B Y : List Nat) (a m b : Nat) (w : World), A.length + B.length ≤ f → 1 ≤ A.length → 1 ≤ B.length → (∀ x ∈ A, x < M) → (∀ y ∈ B, y < M) → a = X.length → m = a + A.length → b = m + B.length → N = b + Y.length → N ≤ 1000 → Srt key A → Srt key B → (∀ x ∈ A, ∀ y ∈ B, x < y) → RowAt blk (X ++ A ++ B ++ Y) w0 w →
      Calls Tryd.prog 60 #[.slice (some ⟨blk, 0, none⟩) N cap, .int .i64 a, .int .i64 m, .int .i64 b, .func (.func 21) #[] #[.pointer (some ⟨bl, 0, none⟩)]] w (SymPost key blk X A B Y w0) := by
  intro f
  induction f with
  | zero => intro X A B Y a m b w hf h1; omega
  | succ f ih =>
    intro X A B Y a m b w hf h1 h2 hMA hMB ha hm hb hN hl hA hB hX h
    by_cases e1 : A.length = 1
    · obtain ⟨x, rfl⟩ := List.length_eq_one_iff.1 e1
      exact sym_ahead key bl blk cap N M X B Y x a m b w0 w HC (hMA x (by simp)) hMB ha (by simpa using hm) hb hN hl hB (fun y hy => hX x (by simp) y hy) h
    · by_cases e2 : B.length = 1
      · obtain ⟨y, rfl⟩ := List.length_eq_one_iff.1 e2
        exact sym_behind key bl blk cap N M X A Y y a m b w0 w HC (hMB y (by simp)) hMA ha hm (by simpa using hb) hN hl (by omega) hA (fun x hx => hX x hx y (by simp)) h
      · exact sym_more key bl blk cap N M w0 HC f (Lib.hid ih) X A B Y a m b w hf (by omega) (by omega) hMA hMB ha hm hb hN hl hA hB hX h

def StabPost (key : Nat → Int) (blk : Nat) (O : List Nat) (w0 : World) (e : Ending) (w' : World) : Prop :=
  e = .returned (.tuple #[]) ∧ ∃ D, D.Perm O ∧ Srt key D ∧ RowAt blk D w0 w'

/-- What each block's sort does. -/
theorem stab_ins {key : Nat → Int} {bl blk cap N M : Nat} {w0 : World} (HC : Hid (CmpOk key M blk bl w0)) {X OX R1 R2 : List Nat} {a b : Nat} {w : World} (hO : (OX ++ (R1 ++ R2)).Pairwise (· < ·)) (hM : ∀ x ∈ OX ++ (R1 ++ R2), x < M) (ha : a = X.length) (hb : b = a + R1.length) (hN : N = b + R2.length) (hl : N ≤ 1000) (h : RowAt blk (X ++ (R1 ++ R2)) w0 w) :
    Calls Tryd.prog 59 #[.slice (some ⟨blk, 0, none⟩) N cap, .int .i64 a, .int .i64 b, .func (.func 21) #[] #[.pointer (some ⟨bl, 0, none⟩)]] w fun e w' =>
      e = .returned (.tuple #[]) ∧ ∃ C, C.Perm R1 ∧ Srt key C ∧ RowAt blk (X ++ C ++ R2) w0 w' := by
  refine ins_any key bl blk cap N M X R1 R2 a b w0 w HC (fun x hx => hM x (by simp [hx])) ha hb hN hl ?_ (by simpa using h)
  exact (List.pairwise_append.1 (List.pairwise_append.1 hO).2.1).1
/-- What each merge does. -/
theorem stab_sym {key : Nat → Int} {bl blk cap N M : Nat} {w0 : World} (HC : Hid (CmpOk key M blk bl w0)) {X A B R OX OA OB OR : List Nat} {a m b : Nat} {w : World} (hO : (OX ++ (OA ++ (OB ++ OR))).Pairwise (· < ·)) (hM : ∀ x ∈ OX ++ (OA ++ (OB ++ OR)), x < M) (hA : A.Perm OA) (hB : B.Perm OB) (sA : Srt key A) (sB : Srt key B) (h1 : 1 ≤ A.length) (h2 : 1 ≤ B.length)
    (ha : a = X.length) (hm : m = a + A.length) (hb : b = m + B.length) (hN : N = b + R.length) (hl : N ≤ 1000) (h : RowAt blk (X ++ (A ++ (B ++ R))) w0 w) :
    Calls Tryd.prog 60 #[.slice (some ⟨blk, 0, none⟩) N cap, .int .i64 a, .int .i64 m, .int .i64 b, .func (.func 21) #[] #[.pointer (some ⟨bl, 0, none⟩)]] w (SymPost key blk X A B R w0) := by
  refine sym_any key bl blk cap N M w0 HC _ X A B R a m b w (Nat.le_refl _) h1 h2 (fun x hx => hM x (by simp [hA.subset hx])) (fun x hx => hM x (by simp [hB.subset hx])) ha hm hb hN hl sA sB ?_ (by simpa using h)
  intro x hx y hy
  exact (List.pairwise_append.1 (List.pairwise_append.1 hO).2.1).2.2 x (hA.subset hx) y (List.mem_append_left _ (hB.subset hy))

set_option maxHeartbeats 1000000 in
set_option maxRecDepth 100000 in
theorem stab_any (key : Nat → Int) (bl blk cap N M : Nat) (O : List Nat) (w0 w : World) (HC : Hid (CmpOk key M blk bl w0)) (hM : ∀ x ∈ O, x < M) (hN : O.length = N) (hl : N ≤ 1000) (hO : O.Pairwise (· < ·)) (h : RowAt blk O w0 w) :
    Calls Tryd.prog 45 #[.slice (some ⟨blk, 0, none⟩) N cap, .int .i64 N, .func (.func 21) #[] #[.pointer (some ⟨bl, 0, none⟩)]] w (StabPost key blk O w0) := by
  have HH := Lib.hid h
  have HO := Lib.hid (And.intro hM (And.intro hO hN))
  clear h hM hN hO
  go_enter Tryd.func45, Tryd.ntmps45
  go_wp2
  go_loopw [7, 8] (fun s t wr => ∃ (a : Nat) (X OX R : List Nat), s = .int .i64 a ∧ t = .int .i64 ((a : Int) + 20) ∧ a = X.length ∧ a + R.length = N ∧ Full key 20 X OX ∧ O = OX ++ R ∧ RowAt blk (X ++ R) w0 wr) (fun s _ _ => N - (intOf s).toNat)
  case atStart => exact ⟨0, [], [], O, rfl, by first | rfl | go_num, rfl, by simpa using HO.out.2.2, .nil, rfl, HH.out⟩
  case round =>
    obtain ⟨a, X, OX, R, rfl, rfl, haX, haR, hF, hOX, hr⟩ := hrel
    clear HH
    have HR := Lib.hid (And.intro hr (And.intro haX (And.intro hF hOX)))
    clear hr haX hF hOX
    by_cases hlt : a + 20 ≤ N
    · obtain ⟨R1, R2, hR12, hR1⟩ : ∃ R1 R2, R = R1 ++ R2 ∧ R1.length = 20 := ⟨R.take 20, R.drop 20, (List.take_append_drop _ _).symm, by simp; omega⟩
      subst hR12
      rw [List.length_append, hR1] at haR
      have HI : Hid (∀ w1, RowAt blk (X ++ (R1 ++ R2)) w0 w1 → Calls Tryd.prog 59 #[.slice (some ⟨blk, 0, none⟩) N cap, .int .i64 a, .int .i64 ((a : Int) + 20), .func (.func 21) #[] #[.pointer (some ⟨bl, 0, none⟩)]] w1 fun e w' =>
          e = .returned (.tuple #[]) ∧ ∃ C, C.Perm R1 ∧ Srt key C ∧ RowAt blk (X ++ C ++ R2) w0 w') := by
        intro w1 h1
        obtain ⟨_, g1, g2, g3⟩ := HR.out
        obtain ⟨o1, o2, o3⟩ := HO.out
        have := stab_ins (cap := cap) (N := N) (b := a + 20) HC (by rw [← g3]; exact o2) (by rw [← g3]; exact o1) g1 (by omega) (by omega) hl h1
        exact this
      go_wp2_with (go_at_call 59; refine (HI.out _ HR.out.1).mono ?_; rintro e w2 ⟨rfl, C, hcp, hcs, hr2⟩; have HC2 := Lib.hid (And.intro hcp (And.intro hcs hr2)); clear hcp hcs hr2)
      go_roundw
      case rel =>
        obtain ⟨_, g1, g2, g3⟩ := HR.out
        obtain ⟨c1, c2, c3⟩ := HC2.out
        have hC20 : C.length = 20 := by rw [c1.length_eq]; exact hR1
        exact ⟨a + 20, X ++ C, OX ++ R1, R2, by go_num, by go_num, by rw [List.length_append]; omega, by omega, .snoc g2 hC20 c2 c1, by rw [g3, List.append_assoc], c3⟩
      case measure => simp [intOf]; omega
    · have HI : Hid (∀ w1, RowAt blk (X ++ R) w0 w1 → Calls Tryd.prog 59 #[.slice (some ⟨blk, 0, none⟩) N cap, .int .i64 a, .int .i64 N, .func (.func 21) #[] #[.pointer (some ⟨bl, 0, none⟩)]] w1 fun e w' =>
          e = .returned (.tuple #[]) ∧ ∃ D, Good key 20 D O ∧ D.length = N ∧ RowAt blk D w0 w') := by
        intro w1 h1
        obtain ⟨_, g1, g2, g3⟩ := HR.out
        obtain ⟨o1, o2, o3⟩ := HO.out
        have := stab_ins (cap := cap) (N := N) (b := N) (R1 := R) (R2 := []) (OX := OX) HC (by rw [List.append_nil, ← g3]; exact o2) (by rw [List.append_nil, ← g3]; exact o1) g1 (by omega) (by simp) hl (by simpa using h1)
        refine this.mono ?_
        rintro e w' ⟨he, C, c1, c2, c3⟩
        have hl := c1.length_eq
        exact ⟨he, X ++ C, by rw [g3]; exact g2.good (.last (by omega) c2 c1), by rw [List.length_append]; omega, by simpa using c3⟩
      go_wp2_with (go_at_call 59; refine (HI.out _ HR.out.1).mono ?_; rintro e w2 ⟨rfl, D, hg, hdl, hr2⟩; have HD := Lib.hid (And.intro hg (And.intro hdl hr2)); clear hg hdl hr2)
      clear HI HR
      go_loopw [6] (fun s wr => ∃ (bs : Nat) (D : List Nat), s = .int .i64 bs ∧ 20 ≤ bs ∧ bs ≤ 2000 ∧ Good key bs D O ∧ D.length = N ∧ RowAt blk D w0 wr) (fun s _ => N - (intOf s).toNat)
      case atStart => exact ⟨20, D, rfl, by omega, by omega, HD.out.1, HD.out.2.1, HD.out.2.2⟩
      case round =>
        obtain ⟨bs, D, rfl, hb20, hb2000, hg, hdl, hr⟩ := hrel
        clear HD
        by_cases hlt2 : bs < N
        · have HD : Hid (Good key bs D O ∧ D.length = N ∧ RowAt blk D w0 wr) := ⟨hg, hdl, hr⟩
          clear hg hdl hr
          go_wp2
          go_loopw [7, 8] (fun s t wr2 => ∃ (a : Nat) (X OX R OR : List Nat), s = .int .i64 a ∧ t = .int .i64 ((a : Int) + 2 * (bs : Int)) ∧ a = X.length ∧ a + R.length = N ∧ Full key (2 * bs) X OX ∧ Good key bs R OR ∧ O = OX ++ OR ∧ RowAt blk (X ++ R) w0 wr2) (fun s _ _ => N - (intOf s).toNat)
          case atStart => exact ⟨0, [], [], D, O, rfl, by first | rfl | go_num, rfl, by simpa using HD.out.2.1, .nil, HD.out.1, rfl, HD.out.2.2⟩
          case round =>
            obtain ⟨a, X, OX, R, OR, rfl, rfl, haX, haR, hF, hG, hOX, hr⟩ := hrel
            clear HD
            have HR := Lib.hid (And.intro hr (And.intro haX (And.intro hF (And.intro hG hOX))))
            clear hr haX hF hG hOX
            by_cases hlt3 : a + 2 * bs ≤ N
            · have HI : Hid (∀ w1, RowAt blk (X ++ R) w0 w1 → Calls Tryd.prog 60 #[.slice (some ⟨blk, 0, none⟩) N cap, .int .i64 a, .int .i64 ((a : Int) + (bs : Int)), .int .i64 ((a : Int) + 2 * (bs : Int)), .func (.func 21) #[] #[.pointer (some ⟨bl, 0, none⟩)]] w1 fun e w' =>
                  e = .returned (.tuple #[]) ∧ ∃ X' OX' R' OR', a + 2 * bs = X'.length ∧ a + 2 * bs + R'.length = N ∧ Full key (2 * bs) X' OX' ∧ Good key bs R' OR' ∧ O = OX' ++ OR' ∧ RowAt blk (X' ++ R') w0 w') := by
                intro w1 h1
                obtain ⟨_, g1, g2, g3, g4⟩ := HR.out
                obtain ⟨o1, o2, o3⟩ := HO.out
                obtain ⟨A, OA, R1, OR1, rfl, rfl, hA1, hA2, hA3, hG1⟩ := g3.split (by omega)
                rw [List.length_append] at haR
                obtain ⟨B, OB, R2, OR2, rfl, rfl, hB1, hB2, hB3, hG2⟩ := hG1.split (by omega)
                rw [List.length_append] at haR
                have := stab_sym (cap := cap) (N := N) (a := a) (m := a + bs) (b := a + 2 * bs) HC (by rw [← g4]; exact o2) (by rw [← g4]; exact o1) hA3 hB3 hA2 hB2 (by omega) (by omega) g1 (by omega) (by omega) (by omega) hl h1
                rw [show ((a + bs : Nat) : Int) = (a : Int) + (bs : Int) by omega, show ((a + 2 * bs : Nat) : Int) = (a : Int) + 2 * (bs : Int) by omega] at this
                refine this.mono ?_
                rintro e w' ⟨he, C, c1, c2, c3⟩
                have hcl := c1.length_eq
                rw [List.length_append] at hcl
                exact ⟨he, X ++ C, OX ++ (OA ++ OB), R2, OR2, by rw [List.length_append]; omega, by omega, .snoc g2 (by omega) c2 (c1.trans (hA3.append hB3)), hG2, by rw [g4]; simp, c3⟩
              go_wp2_with (go_at_call 60; refine (HI.out _ HR.out.1).mono ?_; rintro e w2 ⟨rfl, hx⟩; have HN := Lib.hid hx; clear hx)
              go_roundw
              case rel =>
                obtain ⟨X', OX', R', OR', n1, n2, n3, n4, n5, n6⟩ := HN.out
                exact ⟨a + 2 * bs, X', OX', R', OR', by go_num, by go_num, n1, n2, n3, n4, n5, n6⟩
              case measure => simp [intOf]; omega
            · by_cases hlt4 : a + bs < N
              · have HI : Hid (∀ w1, RowAt blk (X ++ R) w0 w1 → Calls Tryd.prog 60 #[.slice (some ⟨blk, 0, none⟩) N cap, .int .i64 a, .int .i64 ((a : Int) + (bs : Int)), .int .i64 N, .func (.func 21) #[] #[.pointer (some ⟨bl, 0, none⟩)]] w1 fun e w' =>
                    e = .returned (.tuple #[]) ∧ ∃ D, Good key (2 * bs) D O ∧ D.length = N ∧ RowAt blk D w0 w') := by
                  intro w1 h1
                  obtain ⟨_, g1, g2, g3, g4⟩ := HR.out
                  obtain ⟨o1, o2, o3⟩ := HO.out
                  obtain ⟨A, OA, B, OB, rfl, rfl, hA1, hA2, hA3, hG1⟩ := g3.split (by omega)
                  rw [List.length_append] at haR
                  have := stab_sym (cap := cap) (N := N) (a := a) (m := a + bs) (b := N) (R := []) (OR := []) HC (by rw [List.append_nil, ← g4]; exact o2) (by rw [List.append_nil, ← g4]; exact o1) hA3 hG1.perm hA2 (hG1.whole (by omega)) (by omega) (by omega) g1 (by omega) (by omega) (by simp) hl (by simpa using h1)
                  rw [show ((a + bs : Nat) : Int) = (a : Int) + (bs : Int) by omega] at this
                  refine this.mono ?_
                  rintro e w' ⟨he, C, c1, c2, c3⟩
                  have hcl := c1.length_eq
                  rw [List.length_append] at hcl
                  exact ⟨he, X ++ C, by rw [g4]; exact g2.good (.last (by omega) c2 (c1.trans (hA3.append hG1.perm))), by rw [List.length_append]; omega, by simpa using c3⟩
                go_wp2_with (go_at_call 60; refine (HI.out _ HR.out.1).mono ?_; rintro e w2 ⟨rfl, hx⟩; have HN := Lib.hid hx; clear hx)
                go_roundw
                case rel =>
                  obtain ⟨D', n1, n2, n3⟩ := HN.out
                  exact ⟨2 * bs, D', by go_num, by omega, by omega, n1, n2, n3⟩
                case measure => simp [intOf]; omega
              · have HN : Hid (∃ D, Good key (2 * bs) D O ∧ D.length = N ∧ RowAt blk D w0 wr) := by
                  obtain ⟨h1, g1, g2, g3, g4⟩ := HR.out
                  exact ⟨X ++ R, by rw [g4]; exact g2.good (.last (by omega) (g3.whole (by omega)) g3.perm), by rw [List.length_append]; omega, h1⟩
                go_wp2
                go_roundw
                case rel =>
                  obtain ⟨D', n1, n2, n3⟩ := HN.out
                  exact ⟨2 * bs, D', by go_num, by omega, by omega, n1, n2, n3⟩
                case measure => simp [intOf]; omega
        · have HF : Hid (∃ D, D.Perm O ∧ Srt key D ∧ RowAt blk D w0 wr) := ⟨D, hg.perm, hg.whole (by omega), hr⟩
          clear hg hdl hr
          go_wp2
          go_end0
          exact ⟨rfl, HF.out⟩

set_option maxHeartbeats 400000 in
theorem sort_any (key : Nat → Int) (bl blk cap N M : Nat) (O : List Nat) (w0 w : World) (HC : Hid (CmpOk key M blk bl w0)) (hM : ∀ x ∈ O, x < M) (hN : O.length = N) (hl : N ≤ 1000) (hO : O.Pairwise (· < ·)) (h : RowAt blk O w0 w) :
    Calls Tryd.prog 20 #[.slice (some ⟨blk, 0, none⟩) N cap, .func (.func 21) #[] #[.pointer (some ⟨bl, 0, none⟩)]] w (StabPost key blk O w0) := by
  have HS := stab_any key bl blk cap N M O w0 w HC hM hN hl hO h
  clear h hO hN hM
  go_enter Tryd.func20, Tryd.ntmps20
  go_wp2_with (go_at_call 45; refine HS.mono ?_; rintro e w2 ⟨rfl, hx⟩)
  go_end0
  exact ⟨rfl, hx⟩

set_option maxHeartbeats 400000 in
theorem ins_none (bl cap : Nat) (A : Option Addr) (w : World) :
    Calls Tryd.prog 59 #[.slice A 0 cap, .int .i64 0, .int .i64 0, .func (.func 21) #[] #[.pointer (some ⟨bl, 0, none⟩)]] w fun e w' => e = .returned (.tuple #[]) ∧ w = w' := by
  go_enter Tryd.func59, Tryd.ntmps59
  go_wp2
  refine wp_loop_rounds 1 ?_
  rw [rounds_succ]
  go_wp2
  go_end0
  exact ⟨rfl, rfl⟩
set_option maxHeartbeats 400000 in
theorem stab_none (bl cap : Nat) (A : Option Addr) (w : World) :
    Calls Tryd.prog 45 #[.slice A 0 cap, .int .i64 0, .func (.func 21) #[] #[.pointer (some ⟨bl, 0, none⟩)]] w fun e w' => e = .returned (.tuple #[]) ∧ w = w' := by
  go_enter Tryd.func45, Tryd.ntmps45
  go_wp2
  refine wp_loop_rounds 1 ?_
  rw [rounds_succ]
  go_wp2_with (go_at_call 59; refine (ins_none _ _ _ _).mono ?_; rintro e w2 ⟨rfl, rfl⟩)
  refine wp_loop_rounds 1 ?_
  rw [rounds_succ]
  go_wp2
  go_end0
  exact ⟨rfl, rfl⟩
set_option maxHeartbeats 400000 in
/-- Of no place. -/
theorem sort_none (bl cap : Nat) (A : Option Addr) (w : World) :
    Calls Tryd.prog 20 #[.slice A 0 cap, .func (.func 21) #[] #[.pointer (some ⟨bl, 0, none⟩)]] w fun e w' => e = .returned (.tuple #[]) ∧ w = w' := by
  go_enter Tryd.func20, Tryd.ntmps20
  go_wp2_with (go_at_call 45; refine (stab_none _ _ _ _).mono ?_; rintro e w2 ⟨rfl, rfl⟩)
  go_end0
  exact ⟨rfl, rfl⟩
end Go.Proofs.YtmnpefpglpabmaaDoor

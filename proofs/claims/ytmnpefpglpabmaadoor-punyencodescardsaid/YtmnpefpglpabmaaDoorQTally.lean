/-
  The tally: marks counted by a binary indexed tree.
-/
import Derived.Test.YtmnpefpglpabmaaDoorQKept
namespace Go.Proofs.YtmnpefpglpabmaaDoor
open Go.RowKit

/-- The least bit that is set. -/
def lb (n : Nat) : Nat := (bits BinOp.and IntKind.i64 (n : Int) (-(n : Int))).toNat
theorem lb_one : ∀ a : Fin 129, 0 < a.val → bits BinOp.and IntKind.i64 (a.val : Int) (-(a.val : Int)) = (lb a.val : Int) ∧ 1 ≤ lb a.val ∧ lb a.val ≤ a.val := by decide +kernel
theorem lb_between : ∀ a : Fin 129, 0 < a.val → ∀ i : Fin 129, a.val < i.val → i.val < a.val + lb a.val → a.val ≤ i.val - lb i.val := by decide +kernel
theorem lb_next : ∀ a : Fin 129, 0 < a.val → a.val + lb a.val ≤ 128 → a.val + lb a.val - lb (a.val + lb a.val) ≤ a.val - lb a.val := by decide +kernel
theorem lb_zero : lb 0 = 0 := by decide +kernel

/-- How many are marked ahead of a place. -/
def cnt (M : Nat → Bool) : Nat → Nat
  | 0 => 0
  | n + 1 => cnt M n + if M n then 1 else 0
theorem cnt_mono (M : Nat → Bool) {a b : Nat} (h : a ≤ b) : cnt M a ≤ cnt M b := by
  induction b with
  | zero => rw [Nat.le_zero.1 h]; exact Nat.le_refl _
  | succ b ih =>
    by_cases e : a = b + 1
    · subst e; exact Nat.le_refl _
    · exact Nat.le_trans (ih (by omega)) (Nat.le_add_right _ _)
theorem cnt_le (M : Nat → Bool) (n : Nat) : cnt M n ≤ n := by
  induction n with
  | zero => exact Nat.le_refl _
  | succ n ih => show cnt M n + _ ≤ _; split <;> omega
/-- One place more is marked. -/
def mark (M : Nat → Bool) (p : Nat) : Nat → Bool := fun i => M i || i == p
theorem cnt_mark (M : Nat → Bool) (p : Nat) (hp : M p = false) (n : Nat) : cnt (mark M p) n = cnt M n + if p < n then 1 else 0 := by
  induction n with
  | zero => simp [cnt]
  | succ n ih =>
    show cnt (mark M p) n + (if (M n || n == p) = true then 1 else 0) = (cnt M n + if M n = true then 1 else 0) + _
    rw [ih]
    by_cases e : n = p
    · subst e; rw [hp]; simp
    · have e1 : (n == p) = false := beq_eq_false_iff_ne.2 e
      rw [e1, Bool.or_false]
      by_cases h : p < n
      · rw [if_pos h, if_pos (show p < n + 1 by omega)]; omega
      · rw [if_neg h, if_neg (show ¬ p < n + 1 by omega)]; omega
/-- What the tree holds at a place. -/
def fen (M : Nat → Bool) (i : Nat) : Nat := cnt M i - cnt M (i - lb i)
theorem fen_mark (M : Nat → Bool) (p : Nat) (hp : M p = false) (i : Nat) : fen (mark M p) i = fen M i + if i - lb i ≤ p ∧ p < i then 1 else 0 := by
  unfold fen
  rw [cnt_mark M p hp, cnt_mark M p hp]
  have := cnt_mono M (Nat.sub_le i (lb i))
  have h2 : i - lb i ≤ i := Nat.sub_le _ _
  repeat' split
  all_goals omega

/-- A tally in block bt, of n places. -/
def Tally (bt n : Nat) (M : Nat → Bool) (w : World) : Prop := bt < w.heap.size ∧ ∀ i, i ≤ n → w.cell? ⟨bt, i, none⟩ = some (.int .i64 (fen M i : Int)) ∧ w.frozen? ⟨bt, i, none⟩ = false
theorem Tally.kept {bt n : Nat} {M : Nat → Bool} {w w' : World} {S : List Nat} (h : Tally bt n M w) (hk : Kept S w w') (hb : bt ∉ S) : Tally bt n M w' :=
  ⟨Nat.lt_of_lt_of_le h.1 hk.size, fun i hi => ⟨(hk.cell (p := ⟨bt, i, none⟩) h.1 hb).trans (h.2 i hi).1, (hk.frozen (p := ⟨bt, i, none⟩) h.1 hb).trans (h.2 i hi).2⟩⟩

set_option maxHeartbeats 1000000 in
set_option maxRecDepth 100000 in
theorem qahead_any (bt n p : Nat) (M : Nat → Bool) (w : World) (hn : n ≤ 120) (hp : p ≤ n) (h : Tally bt n M w) :
    Calls Tryd.prog 23 #[.slice (some ⟨bt, 0, none⟩) (n + 1) (n + 1), .int .i64 p] w fun e w' => e = .returned (.int .i64 (cnt M p)) ∧ w = w' := by
  go_enter Tryd.func23, Tryd.ntmps23
  go_wp2
  go_loopw [5, 6] (fun s a wr => ∃ sum t : Nat, s = .int .i64 sum ∧ a = .int .i64 t ∧ wr = w ∧ t ≤ p ∧ sum + cnt M t = cnt M p) (fun _ a _ => (intOf a).toNat)
  case atStart => exact ⟨0, p, rfl, rfl, rfl, Nat.le_refl _, by simp⟩
  case round =>
    obtain ⟨sum, t, rfl, rfl, hw, ht, hs⟩ := hrel
    have := hw.symm; subst this
    clear hw
    have hsb := cnt_le M p
    by_cases h0 : 0 < t
    · have hc := (h.2 t (by omega)).1
      obtain ⟨hb1, hb2, hb3⟩ := lb_one ⟨t, by omega⟩ h0
      simp only at hb1 hb2 hb3
      have hf1 : fen M t + cnt M (t - lb t) = cnt M t := by
        have := cnt_mono M (Nat.sub_le t (lb t))
        unfold fen; omega
      clear h
      obtain ⟨b, hbe⟩ : ∃ b, lb t = b := ⟨_, rfl⟩
      rw [hbe] at hb1 hb2 hb3 hf1
      have HF : Hid (fen M t + cnt M (t - b) = cnt M t) := hf1
      have HS : Hid (sum + cnt M t = cnt M p) := hs
      obtain ⟨f, hfe⟩ : ∃ f, fen M t = f := ⟨_, rfl⟩
      rw [hfe] at hc HF
      have hfb : sum + f ≤ p := by omega
      clear hbe hf1 hs hfe
      go_wp2
      go_roundw
      case rel => exact ⟨sum + f, t - b, by go_num, by go_num, by first | rfl | trivial, by omega, by have h1 := HF.out; have h2 := HS.out; omega⟩
      case measure => simp [intOf]; omega
    · obtain rfl : t = 0 := by omega
      have HS : Hid (sum = cnt M p) := hs
      clear h hs
      go_wp2
      go_ret
      exact ⟨ret_int (by rw [← HS.out]), rfl⟩

set_option maxHeartbeats 1000000 in
set_option maxRecDepth 100000 in
theorem qmark_any (bt n p : Nat) (M : Nat → Bool) (w : World) (hn : n ≤ 120) (hp : p < n) (hM : M p = false) (h : Tally bt n M w) :
    Calls Tryd.prog 18 #[.slice (some ⟨bt, 0, none⟩) (n + 1) (n + 1), .int .i64 p] w fun e w' => e = .returned (.tuple #[]) ∧ Tally bt n (mark M p) w' ∧ Kept [bt] w w' := by
  go_enter Tryd.func18, Tryd.ntmps18
  go_wp2
  go_loopw [4] (fun a wr => ∃ t : Nat, a = .int .i64 t ∧ p < t ∧ (t ≤ n → t - lb t ≤ p) ∧ t ≤ 256 ∧ Kept [bt] w wr ∧ bt < wr.heap.size ∧
      ∀ i, i ≤ n → wr.cell? ⟨bt, i, none⟩ = some (.int .i64 ((fen M i + if i < t ∧ i - lb i ≤ p ∧ p < i then 1 else 0 : Nat) : Int)) ∧ wr.frozen? ⟨bt, i, none⟩ = false) (fun a _ => n + 1 - (intOf a).toNat)
  case atStart =>
    refine ⟨p + 1, by go_num, by omega, fun _ => ?_, by omega, Kept.refl _ _, h.1, fun i hi => ⟨?_, (h.2 i hi).2⟩⟩
    · have := lb_one ⟨p + 1, by omega⟩ (Nat.succ_pos p)
      simp only at this
      omega
    · rw [(h.2 i hi).1, if_neg (by omega)]
      rfl
  case round =>
    obtain ⟨t, rfl, hpt, htl, ht256, hK, hlt, hcell⟩ := hrel
    clear h
    have HK := Lib.hid hK
    clear hK
    have hsb := cnt_le M n
    by_cases h0 : t ≤ n
    · obtain ⟨hb1, hb2, hb3⟩ := lb_one ⟨t, by omega⟩ (show 0 < t by omega)
      simp only at hb1 hb2 hb3
      obtain ⟨hc, hf⟩ := hcell t h0
      rw [if_neg (by omega)] at hc
      have hfm : fen M t ≤ n := by
        have h1 := cnt_mono M h0
        unfold fen; omega
      have HL := Lib.hid (And.intro htl (And.intro (lb_between ⟨t, by omega⟩ (show 0 < t by omega)) (lb_next ⟨t, by omega⟩ (show 0 < t by omega))))
      have HC := Lib.hid hcell
      clear hcell htl
      obtain ⟨b, hbe⟩ : ∃ b, lb t = b := ⟨_, rfl⟩
      rw [hbe] at hb1 hb2 hb3
      have HBE := Lib.hid hbe
      obtain ⟨f, hfe⟩ : ∃ f, fen M t = f := ⟨_, rfl⟩
      rw [hfe] at hfm
      simp only [hfe, Nat.add_zero] at hc
      have HFE := Lib.hid hfe
      clear hbe hfe
      go_wp2
      go_roundw
      case rel =>
        obtain ⟨hl1, hl2, hl3⟩ := HL.out
        simp only [HBE.out] at hl1 hl2 hl3
        refine ⟨t + b, by go_num, by omega, fun hle => ?_, by omega, HK.out.setCell (p := ⟨bt, t, none⟩) (.inl (by simp)) _, by simpa using hlt, fun i hi => ?_⟩
        · have := hl3 (by omega)
          omega
        · rw [World.frozen?_setCell]
          refine ⟨?_, (HC.out i hi).2⟩
          by_cases e : i = t
          · subst e
            rw [World.cell?_setCell_same' _ _ _ (by rw [(HC.out i hi).1]; rfl), if_pos ⟨by omega, by rw [HBE.out]; exact hl1 h0, hpt⟩, HFE.out]
            rfl
          · rw [World.cell?_setCell_other _ _ _ _ (by intro e'; simp only [Addr.mk.injEq] at e'; omega), (HC.out i hi).1]
            by_cases h1 : i < t
            · simp only [h1, show i < t + b by omega]
            · by_cases h2 : i < t + b
              · have := hl2 ⟨i, by omega⟩ (show t < i by omega) h2
                simp only at this
                rw [if_neg (by omega), if_neg (by omega)]
              · rw [if_neg (by omega), if_neg (by omega)]
      case measure => simp [intOf]; omega
    · have HC : Hid (Tally bt n (mark M p) wr) := ⟨hlt, fun i hi => ⟨by rw [(hcell i hi).1, fen_mark M p hM]; simp only [show i < t by omega, true_and], (hcell i hi).2⟩⟩
      clear hcell htl
      go_wp2
      go_end0
      exact ⟨rfl, HC.out, HK.out⟩
end Go.Proofs.YtmnpefpglpabmaaDoor

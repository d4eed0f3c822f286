/-
  In this text, one behind the other: SixRun.
-/
import Derived.BigQuiet
import Derived.Deep.AppendLies
import Derived.Deep.Light
import Derived.Deep.LoopGhost
import Derived.Deep.QuietTactic
import Derived.Deep.RegionHeld3
import Derived.Deep.RegionWith
import Derived.IntWalk
import Derived.LaidEql
import Derived.Laws.BitsAllLaws
import Derived.Laws.BitsLemmas
import Derived.Laws.Cover4
import Derived.Lib.Hide
import Derived.Lib.IndexBytes
import Derived.Lib.IndexMore
import Derived.Lib.ParseIntB
import Derived.Maps.AppendAt
import Derived.RowKitTokens
import Derived.Shelf.Spec.TrailingZeros
import Derived.Shelf.Strings.OnBuilder
import Derived.Stop.Asserts
import Derived.WalkKit
import Derived.WalkLawsBesides
import Derived.WalkMore
import Derived.WalkSpells
import Derived.Test.YtliklhldlofnjaaDoorRows
import Derived.Test.YtliklhldlofnjaaDoorG8
import Derived.Test.YtliklhldlofnjaaDoorG12
import Derived.Test.YtliklhldlofnjaaDoorG20
/-
  The program's longestRun of layer 8, by its contract.
-/
namespace Go.Proofs.YtliklhldlofnjaaDoor
open Go.RowKit

/-- The longest run among the first i places. -/
def Lr (l : List Nat) (i B E : Nat) : Prop := B = bst8 l i ∧ E = B + (if i = 0 then 0 else run8 (l.drop B))
theorem Lr.zero (l : List Nat) : Lr l 0 0 0 := ⟨rfl, rfl⟩
theorem Lr.next {l : List Nat} {i B E r : Nat} (h : Lr l i B E) (hr : run8 (l.drop i) = r) : Lr l (i + 1) (if E - B < r then i else B) (if E - B < r then i + r else E) := by
  obtain ⟨rfl, rfl⟩ := h
  unfold Lr
  rw [bst8_succ, hr]
  by_cases h0 : i = 0
  · subst h0
    rw [bst8_zero] at *
    simp only [if_true, Nat.add_zero, Nat.sub_self, Nat.zero_add, ite_self]
    refine ⟨trivial, ?_⟩
    rw [if_neg (show ¬ (0 + 1 = 0) by omega), hr]
    split <;> omega
  · rw [if_neg h0, if_neg (show ¬ (i + 1 = 0) by omega), Nat.add_sub_cancel_left]
    by_cases hlt : run8 (l.drop (bst8 l i)) < r
    · simp only [if_pos hlt, hr, and_self]
    · simp only [if_neg hlt, and_self]
theorem Lr.last {l : List Nat} {i B E : Nat} (h : Lr l (i + 1) B E) (hl : l.length = 8) (hi : i < 8) (hz : run8 (l.drop i) = 8 - i) : Lr l 8 B E := by
  obtain ⟨rfl, rfl⟩ := h
  have hle : l.length - i ≤ run8 (l.drop (bst8 l (i + 1))) := by
    rw [bst8_succ]
    split
    · omega
    · omega
  have e := bst8_rest l i hle (8 - (i + 1))
  rw [show i + 1 + (8 - (i + 1)) = 8 by omega] at e
  unfold Lr
  rw [e, if_neg (by omega), if_neg (by decide)]
  exact ⟨rfl, rfl⟩
theorem Lr.bound {l : List Nat} {i B E : Nat} (h : Lr l i B E) (hl : l.length = 8) (hi : i ≤ 8) : B ≤ E ∧ E ≤ 8 := by
  obtain ⟨rfl, rfl⟩ := h
  have h1 := bst8_le l i
  have h2 := run8_drop l (bst8 l i)
  split <;> omega
/-- What is known inside the search from a place on. -/
def Inn (B E i j B' E' : Nat) : Prop := B' = (if E - B < j - i then i else B) ∧ E' = (if E - B < j - i then j else E)
theorem Inn.zero (B E i : Nat) : Inn B E i i B E := by
  unfold Inn
  rw [Nat.sub_self, if_neg (by omega), if_neg (by omega)]
  exact ⟨rfl, rfl⟩
theorem Inn.yes {B E i j B' E' : Nat} (h : Inn B E i j B' E') (hg : E' - B' < j + 1 - i) : Inn B E i (j + 1) i (j + 1) := by
  obtain ⟨rfl, rfl⟩ := h
  unfold Inn
  have : E - B < j + 1 - i := by
    split at hg
    · omega
    · omega
  rw [if_pos this, if_pos this]
  exact ⟨rfl, rfl⟩
theorem Inn.no {B E i j B' E' : Nat} (h : Inn B E i j B' E') (hij : i ≤ j) (hBE : B ≤ E) (hg : ¬ E' - B' < j + 1 - i) : Inn B E i (j + 1) B' E' := by
  obtain ⟨rfl, rfl⟩ := h
  unfold Inn
  by_cases hlt : E - B < j - i
  · exfalso
    rw [if_pos hlt, if_pos hlt] at hg
    omega
  · rw [if_neg hlt, if_neg hlt] at hg ⊢
    rw [if_neg hg, if_neg hg]
    exact ⟨rfl, rfl⟩
theorem Inn.bound {B E i j B' E' : Nat} (h : Inn B E i j B' E') (hij : i ≤ j) (hj : j ≤ 8) (hBE : B ≤ E) (hE : E ≤ 8) : B' ≤ E' ∧ E' ≤ 8 := by
  obtain ⟨rfl, rfl⟩ := h
  split <;> omega
theorem Inn.done {l : List Nat} {B E i j B' E' : Nat} (h : Inn B E i j B' E') (hij : i ≤ j) (hL : Lr l i B E) (hr : run8 (l.drop i) = j - i) : Lr l (i + 1) B' E' := by
  obtain ⟨rfl, rfl⟩ := h
  have := hL.next hr
  rw [show i + (j - i) = j by omega] at this
  exact this

set_option maxHeartbeats 4000000 in
set_option maxRecDepth 100000 in
theorem lrun_any (a0 a1 a2 a3 a4 a5 a6 a7 : Nat) (w : World) (hl : ∀ n ∈ [a0, a1, a2, a3, a4, a5, a6, a7], n < 65536) :
    Calls Tryd.prog 45 #[addr8 a0 a1 a2 a3 a4 a5 a6 a7] w fun e w' => ∃ B E : Nat, e = .returned (.tuple #[.int .i64 (B : Int), .int .i64 (E : Int)]) ∧ Lr [a0, a1, a2, a3, a4, a5, a6, a7] 8 B E ∧ Below w.heap.size w w' := by
  have HC := Lib.hid (eight_at (a0 := a0) (a1 := a1) (a2 := a2) (a3 := a3) (a4 := a4) (a5 := a5) (a6 := a6) (a7 := a7) w 24)
  obtain ⟨l, hll⟩ : ∃ l, [a0, a1, a2, a3, a4, a5, a6, a7] = l := ⟨_, rfl⟩
  have hlen : l.length = 8 := by rw [← hll]; rfl
  have HLen := Lib.hid hlen
  rw [hll] at HC hl ⊢
  have HL := Lib.hid hl
  clear hll hlen hl
  unfold addr8
  go_enter Tryd.func45, Tryd.ntmps45
  go_wp2
  obtain ⟨W, hW⟩ : ∃ W, w.alloc (.cells #[.int .u16 (a0 : Int), .int .u16 (a1 : Int), .int .u16 (a2 : Int), .int .u16 (a3 : Int), .int .u16 (a4 : Int), .int .u16 (a5 : Int), .int .u16 (a6 : Int), .int .u16 (a7 : Int)] 24) = W := ⟨_, rfl⟩
  have HB : Hid (Below w.heap.size w W) := by show Below w.heap.size w W; rw [← hW]; exact (Below.refl _ _).alloc (Nat.le_refl _) _
  rw [hW] at HC ⊢
  clear hW
  go_step3
  go_wp2
  go_step3
  go_wp2
  go_loopg [2, 3, 6] 8 (fun kk v2 v3 v6 wr => ∃ i B E : Nat, kk = 8 - i ∧ i ≤ 8 ∧ v2 = .int .i64 (B : Int) ∧ v3 = .int .i64 (E : Int) ∧ v6 = .int .i64 (i : Int) ∧ wr = W ∧ Hid (Lr l i B E))
  case atStart => exact ⟨0, 0, 0, rfl, by omega, rfl, rfl, rfl, rfl, Lib.hid (Lr.zero l)⟩
  case round =>
    obtain ⟨i, B, E, hk1, hi, rfl, rfl, rfl, hw, HR⟩ := hrel
    have hw' := hw.symm
    subst hw'
    clear hw
    obtain ⟨hBE, hE8⟩ := HR.out.bound HLen.out hi
    by_cases hi8 : i < 8
    · have hdec : decide ((i : Int) < 8) = true := decide_eq_true (by omega)
      go_wp2
      go_loopg [2, 3, 5] (8 - i) (fun kk v2 v3 v5 wr2 => ∃ j B' E' : Nat, kk = 8 - j ∧ i ≤ j ∧ j ≤ 8 ∧ v2 = .int .i64 (B' : Int) ∧ v3 = .int .i64 (E' : Int) ∧ v5 = .int .i64 (j : Int) ∧ wr2 = W ∧ Hid (Inn B E i j B' E') ∧ Hid (∀ q, q < j - i → (l.drop i)[q]? = some 0))
      case atStart => exact ⟨i, B, E, rfl, Nat.le_refl _, by omega, rfl, rfl, rfl, rfl, Lib.hid (Inn.zero B E i), Lib.hid (fun q hq => by omega)⟩
      case round =>
        obtain ⟨j, B', E', hk2, hij, hj, rfl, rfl, rfl, hw, HI, HZ⟩ := hrel
        have hw' := hw.symm
        subst hw'
        clear hw
        obtain ⟨hBE', hE8'⟩ := HI.out.bound hij hj hBE hE8
        by_cases hj8 : j < 8
        · have hc := HC.out j hj8
          have HG := Lib.hid (getD_at8 (l := l) (k := j) (by rw [HLen.out]; exact hj8))
          obtain ⟨x, hx⟩ : ∃ x, l.getD j 0 = x := ⟨_, rfl⟩
          rw [hx] at hc HG
          clear hx
          by_cases hx0 : x = 0
          · subst hx0
            have HZ2 : Hid (∀ q, q < j + 1 - i → (l.drop i)[q]? = some 0) := by
              show ∀ q, q < j + 1 - i → (l.drop i)[q]? = some 0
              intro q hq
              rcases Nat.lt_or_ge q (j - i) with h | h
              · exact HZ.out q h
              · obtain rfl : q = j - i := by omega
                rw [List.getElem?_drop, show i + (j - i) = j by omega]; exact HG.out
            by_cases hgt : E' - B' < j + 1 - i
            · have hgi : (E' : Int) - (B' : Int) < (j : Int) + 1 - (i : Int) := by omega
              have HI2 := Lib.hid (HI.out.yes hgt)
              clear hgt
              go_wp2
              go_roundg (8 - (j + 1))
              case rel => exact ⟨j + 1, i, j + 1, rfl, by omega, by omega, by first | rfl | trivial, by go_num, by go_num, by first | rfl | trivial, HI2, HZ2⟩
              case measure => omega
            · have hgi : ¬ ((E' : Int) - (B' : Int) < (j : Int) + 1 - (i : Int)) := by omega
              have HI2 := Lib.hid (HI.out.no hij hBE hgt)
              clear hgt
              go_wp2
              go_roundg (8 - (j + 1))
              case rel => exact ⟨j + 1, B', E', rfl, by omega, by omega, by first | rfl | trivial, by first | rfl | trivial, by go_num, by first | rfl | trivial, HI2, HZ2⟩
              case measure => omega
          · have hx1 : ((x : Int) != 0) = true := bne_iff_ne.2 (by omega)
            have HRr := Lib.hid (run8_is (k := j - i) HZ.out (.inr ⟨x, by rw [List.getElem?_drop, show i + (j - i) = j by omega]; exact HG.out, hx0⟩))
            have HR2 := Lib.hid (HI.out.done hij HR.out HRr.out)
            go_wp2
            go_roundg (8 - (i + 1))
            case rel => exact ⟨i + 1, B', E', rfl, by omega, by first | rfl | trivial, by first | rfl | trivial, by go_num, by first | rfl | trivial, HR2⟩
            case measure => omega
        · obtain rfl : j = 8 := by omega
          have HRr := Lib.hid (run8_is (k := 8 - i) HZ.out (.inl (by rw [List.length_drop, HLen.out])))
          have HR2 := Lib.hid ((HI.out.done hij HR.out HRr.out).last HLen.out hi8 HRr.out)
          go_wp2
          first | rw [Exit.noGoto_ret] | skip
          go_ret2
          exact ⟨B', E', rfl, HR2.out, HB.out⟩
    · obtain rfl : i = 8 := by omega
      go_wp2
      first | rw [Exit.noGoto_ret] | skip
      go_ret2
      exact ⟨B, E, rfl, HR.out, HB.out⟩
end Go.Proofs.YtliklhldlofnjaaDoor

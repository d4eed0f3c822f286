/-
  In this text, one behind the other: GoText.
-/
import Derived.BigQuiet
import Derived.Deep.AppendLies
import Derived.Deep.Light
import Derived.Deep.LoopGhost
import Derived.Deep.QuietTactic
import Derived.Deep.RegionHeld3
import Derived.Deep.RegionWith
import Derived.IntWalk
import Derived.LaidEql
import Derived.Laws.AppendOwnNone
import Derived.Laws.Bits64b
import Derived.Laws.BitsAllLaws
import Derived.Laws.BitsLemmas
import Derived.Laws.Cover4
import Derived.Laws.IdiomStrings
import Derived.Lib.Hide
import Derived.Lib.IndexBytes
import Derived.Lib.IndexMore
import Derived.Lib.Join
import Derived.Lib.ParseIntB
import Derived.Maps.AppendAt
import Derived.RowKitTokens
import Derived.Shelf.Spec.TrailingZeros
import Derived.Shelf.Strconv.Itoa3
import Derived.Shelf.Strings.OnBuilder
import Derived.Stop.Asserts
import Derived.WalkKit
import Derived.WalkLawsBesides
import Derived.WalkMore
import Derived.WalkSpells
import Derived.Test.YtliklhldlofnjaaDoorRows
import Derived.Test.YtliklhldlofnjaaDoorG9
import Derived.Test.YtliklhldlofnjaaDoorG18
import Derived.Test.YtliklhldlofnjaaDoorG22
/-
  The program's Text of layer 9 (written by mkgotext.py).
-/
namespace Go.Proofs.YtliklhldlofnjaaDoor
open Go.RowKit

theorem zt_is {n : Nat} {t : ByteArray} (h : btx (text7 n) = t) (hn : n < 4294967296) (w : World) (hp : Pow w) : Calls Tryd.prog 37 #[.int .u32 (n : Int)] w fun e w' => e = .returned (.string t) ∧ Below w.heap.size w w' := by
  have := ztext_any n w hn hp
  rw [h] at this
  exact this
theorem st_is (a0 a1 a2 a3 a4 a5 a6 a7 : Nat) {t : ByteArray} (ht : btx (text8 [a0, a1, a2, a3, a4, a5, a6, a7]) = t) (h6 : ∀ n ∈ [a0, a1, a2, a3, a4, a5, a6, a7], n < 65536) (w : World) (hv : V8 w) :
    Calls Tryd.prog 38 #[.agg #[.int .u16 (a0 : Int), .int .u16 (a1 : Int), .int .u16 (a2 : Int), .int .u16 (a3 : Int), .int .u16 (a4 : Int), .int .u16 (a5 : Int), .int .u16 (a6 : Int), .int .u16 (a7 : Int)]] w fun e w' => e = .returned (.string t) ∧ Below w.heap.size w w' := by
  have := sixtext_any a0 a1 a2 a3 a4 a5 a6 a7 w hv h6
  rw [ht] at this
  exact this

set_option maxHeartbeats 1000000 in
set_option maxRecDepth 100000 in
theorem gotext_any (k : Int) (nm : ByteArray) (v4 : Nat) (a0 a1 a2 a3 a4 a5 a6 a7 : Nat) (w : World) (hv : v4 < 4294967296) (h6 : ∀ n ∈ [a0, a1, a2, a3, a4, a5, a6, a7], n < 65536) (hp : Pow w) (h8 : V8 w) :
    Calls Tryd.prog 28 #[.agg #[.int .i64 k, .string nm, .int .u32 (v4 : Int), .int .u16 (a0 : Int), .int .u16 (a1 : Int), .int .u16 (a2 : Int), .int .u16 (a3 : Int), .int .u16 (a4 : Int), .int .u16 (a5 : Int), .int .u16 (a6 : Int), .int .u16 (a7 : Int)]] w fun e w' => e = .returned (.string (btx (textK k nm.data.toList v4 [a0, a1, a2, a3, a4, a5, a6, a7]))) ∧ Below w.heap.size w w' := by
  have H6 := Lib.hid h6
  clear h6
  obtain ⟨R, hR⟩ : ∃ R, btx (textK k nm.data.toList v4 [a0, a1, a2, a3, a4, a5, a6, a7]) = R := ⟨_, rfl⟩
  rw [hR]
  have HR := Lib.hid hR
  clear hR
  have HB := Lib.hid ((Below.refl w.heap.size w).alloc (Nat.le_refl _) (.cells #[.int .i64 k, .string nm, .int .u32 (v4 : Int), .int .u16 (a0 : Int), .int .u16 (a1 : Int), .int .u16 (a2 : Int), .int .u16 (a3 : Int), .int .u16 (a4 : Int), .int .u16 (a5 : Int), .int .u16 (a6 : Int), .int .u16 (a7 : Int)] 26))
  have HP := Lib.hid (hp.below HB.out)
  have HV := Lib.hid (h8.below HB.out)
  clear hp h8
  by_cases k2 : k = 2
  · subst k2
    have HN : Hid (R = nm) := by show R = nm; rw [← HR.out]; rfl
    go_enter Tryd.func28, Tryd.ntmps28
    go_wp2
    go_ret
    exact ⟨by rw [HN.out]; rfl, HB.out⟩
  · by_cases k5 : k = 5
    · subst k5
      have HN : Hid (R = nm) := by show R = nm; rw [← HR.out]; rfl
      go_enter Tryd.func28, Tryd.ntmps28
      go_wp2
      go_ret
      exact ⟨by rw [HN.out]; rfl, HB.out⟩
    · have h25 : ¬ (k = 2 ∨ k = 5) := by omega
      have e2 : (k == 2) = false := beq_eq_false_iff_ne.2 k2
      have e5 : (k == 5) = false := beq_eq_false_iff_ne.2 k5
      by_cases k3 : k = 3
      · subst k3
        obtain ⟨t, ht⟩ : ∃ t, btx (text7 v4) = t := ⟨_, rfl⟩
        have HT := Lib.hid ht
        have HN : Hid (R = t) := by show R = t; rw [← HR.out, ← ht]; rfl
        clear ht k2 k5 h25 e2 e5
        go_enter Tryd.func28, Tryd.ntmps28
        go_wp2_with (go_at_call 37; (with_reducible refine (zt_is HT.out hv _ HP.out).mono ?_); rintro e w1 ⟨rfl, hb⟩; have HB := Lib.hid (bnx8 HB.out hb); clear hb)
        go_ret
        exact ⟨by rw [HN.out]; rfl, HB.out⟩
      · have e3 : (k == 3) = false := beq_eq_false_iff_ne.2 k3
        by_cases k4 : k = 4
        · subst k4
          obtain ⟨t, ht⟩ : ∃ t, btx (text8 [a0, a1, a2, a3, a4, a5, a6, a7]) = t := ⟨_, rfl⟩
          have htz : t.size ≤ 39 := by rw [← ht, btx_size]; exact (text8_len rfl H6.out).2
          have HT := Lib.hid ht
          have HN : Hid (R = (⟨#[91]⟩ : ByteArray) ++ t ++ ⟨#[93]⟩) := by
            show R = (⟨#[91]⟩ : ByteArray) ++ t ++ ⟨#[93]⟩
            rw [← HR.out, ← ht]
            refine ByteArray.ext (Array.toList_inj.1 ?_)
            show textK 4 nm.data.toList v4 [a0, a1, a2, a3, a4, a5, a6, a7] = _
            simp [btx, textK]
          clear ht k2 k5 h25 e2 e5 k3 e3
          go_enter Tryd.func28, Tryd.ntmps28
          go_wp2_with (go_at_call 38; (with_reducible refine (st_is a0 a1 a2 a3 a4 a5 a6 a7 HT.out H6.out _ HV.out).mono ?_); rintro e w1 ⟨rfl, hb⟩; have HB := Lib.hid (bnx8 HB.out hb); clear hb)
          go_ret
          exact ⟨by rw [HN.out]; rfl, HB.out⟩
        · have e4 : (k == 4) = false := beq_eq_false_iff_ne.2 k4
          have HN : Hid (R = ⟨#[]⟩) := by
            show R = ⟨#[]⟩
            rw [← HR.out]
            unfold textK
            rw [if_neg h25, if_neg k3, if_neg k4]; rfl
          clear k2 k5 h25 k3 k4
          go_enter Tryd.func28, Tryd.ntmps28
          go_wp2
          go_ret
          exact ⟨by rw [HN.out]; rfl, HB.out⟩
end Go.Proofs.YtliklhldlofnjaaDoor

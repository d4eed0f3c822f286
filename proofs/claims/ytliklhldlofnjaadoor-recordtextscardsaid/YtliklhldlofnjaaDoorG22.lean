/-
  In this text, one behind the other: SixText.
-/
import Derived.BigQuiet
import Derived.Deep.AppendLies
import Derived.Deep.Light
import Derived.Deep.LoopGhost
import Derived.Deep.QuietTactic
import Derived.Deep.RegionHeld3
import Derived.Deep.RegionWith
import Derived.IntWalk
import Derived.LaidEql
import Derived.Laws.Bits64b
import Derived.Laws.BitsAllLaws
import Derived.Laws.BitsLemmas
import Derived.Laws.Cover4
import Derived.Laws.IdiomStrings
import Derived.Lib.Hide
import Derived.Lib.IndexBytes
import Derived.Lib.IndexMore
import Derived.Lib.Join
import Derived.Lib.ParseIntB
import Derived.Maps.AppendAt
import Derived.RowKitTokens
import Derived.Shelf.Spec.TrailingZeros
import Derived.Shelf.Strings.OnBuilder
import Derived.Stop.Asserts
import Derived.WalkKit
import Derived.WalkLawsBesides
import Derived.WalkMore
import Derived.WalkSpells
import Derived.Test.YtliklhldlofnjaaDoorRows
import Derived.Test.YtliklhldlofnjaaDoorG5
import Derived.Test.YtliklhldlofnjaaDoorG8
import Derived.Test.YtliklhldlofnjaaDoorG16
import Derived.Test.YtliklhldlofnjaaDoorG21
/-
  The program's Text of layer 8, by its contract.
-/
namespace Go.Proofs.YtliklhldlofnjaaDoor
open Go.RowKit

theorem RowU.heap8 {t : TypeId} {W W' : World} {g : Nat} {c : List Nat} (h : RowU t W g c) (hh : W'.heap = W.heap) : RowU t W' g c := by
  unfold RowU
  rw [hh]
  exact h
theorem join_is {g off m cap : Nat} {c : List Nat} (hm : c.length = m) (w : World) (hv : V8 w) (hc : c.length ≤ 8) (h6 : ∀ n ∈ c, n < 65536) (hcells : ∀ (j x : Nat), c[j]? = some x → w.cell? ⟨g, off + j, none⟩ = some (.int .u16 (x : Int))) :
    Calls Tryd.prog 46 #[.slice (some ⟨g, off, none⟩) m cap] w fun e w' => e = .returned (.string (btx (join8 c))) ∧ Below w.heap.size w w' := by
  subst hm
  exact join_any g off cap c w hv hc h6 hcells
theorem text_by {l : List Nat} {B E : Nat} (h : Lr l 8 B E) : text8 l = if E - B < 2 then join8 l else join8 (l.take B) ++ 58 :: 58 :: join8 (l.drop E) := by
  obtain ⟨rfl, rfl⟩ := h
  rw [if_neg (show ¬ (8 = 0) by decide), Nat.add_sub_cancel_left]
  rfl
theorem btx3 (x y : List UInt8) : btx x ++ ⟨#[58, 58]⟩ ++ btx y = btx (x ++ 58 :: 58 :: y) := by
  have h1 : (⟨#[58, 58]⟩ : ByteArray) = btx [58, 58] := rfl
  rw [h1, ← btx_app8, ← btx_app8]
  simp
theorem row_from {t : TypeId} {w : World} {g : Nat} {l : List Nat} (h : RowU t w g l) (k : Nat) : ∀ (j x : Nat), (l.drop k)[j]? = some x → w.cell? ⟨g, k + j, none⟩ = some (.int .u16 (x : Int)) := by
  intro j x hx
  rw [List.getElem?_drop] at hx
  exact (h.at hx).1
theorem row_to {t : TypeId} {w : World} {g : Nat} {l : List Nat} (h : RowU t w g l) (k : Nat) : ∀ (j x : Nat), (l.take k)[j]? = some x → w.cell? ⟨g, 0 + j, none⟩ = some (.int .u16 (x : Int)) := by
  intro j x hx
  rw [List.getElem?_take] at hx
  split at hx
  · rw [Nat.zero_add]; exact (h.at hx).1
  · cases hx
theorem row_all {t : TypeId} {w : World} {g : Nat} {l : List Nat} (h : RowU t w g l) : ∀ (j x : Nat), l[j]? = some x → w.cell? ⟨g, 0 + j, none⟩ = some (.int .u16 (x : Int)) := by
  intro j x hx
  rw [Nat.zero_add]; exact (h.at hx).1
theorem no_mem8 : ∀ n ∈ ([] : List Nat), n < 65536 := fun n h => by cases h
theorem no_cell8 {w : World} {g off : Nat} : ∀ (j x : Nat), ([] : List Nat)[j]? = some x → w.cell? ⟨g, off + j, none⟩ = some (.int .u16 (x : Int)) := fun j x h => by cases h
theorem join_nil8 {g off cap : Nat} (w : World) (hv : V8 w) : Calls Tryd.prog 46 #[.slice (some ⟨g, off, none⟩) 0 cap] w fun e w' => e = .returned (.string (btx (join8 []))) ∧ Below w.heap.size w w' := join_any g off cap [] w hv (Nat.zero_le _) no_mem8 no_cell8
theorem join_size {c : List Nat} (hc : c.length ≤ 8) (h6 : ∀ n ∈ c, n < 65536) : (btx (join8 c)).size ≤ 40 := by
  rw [btx_size]
  have := (join8_len c h6).1
  omega

theorem lrun_is {a0 a1 a2 a3 a4 a5 a6 a7 B E : Nat} (hL : Lr [a0, a1, a2, a3, a4, a5, a6, a7] 8 B E) (hl : ∀ n ∈ [a0, a1, a2, a3, a4, a5, a6, a7], n < 65536) (w : World) :
    Calls Tryd.prog 45 #[.agg #[.int .u16 (a0 : Int), .int .u16 (a1 : Int), .int .u16 (a2 : Int), .int .u16 (a3 : Int), .int .u16 (a4 : Int), .int .u16 (a5 : Int), .int .u16 (a6 : Int), .int .u16 (a7 : Int)]] w fun e w' => e = .returned (.tuple #[.int .i64 (B : Int), .int .i64 (E : Int)]) ∧ Below w.heap.size w w' := by
  refine (lrun_any a0 a1 a2 a3 a4 a5 a6 a7 w hl).mono ?_
  rintro e w' ⟨B', E', rfl, hL', hb⟩
  have h1 : B' = B := hL'.1.trans hL.1.symm
  subst h1
  have h2 : E' = E := hL'.2.trans hL.2.symm
  subst h2
  exact ⟨rfl, hb⟩
set_option maxHeartbeats 4000000 in
set_option maxRecDepth 100000 in
theorem sixtext_any (a0 a1 a2 a3 a4 a5 a6 a7 : Nat) (w : World) (hv : V8 w) (hl : ∀ n ∈ [a0, a1, a2, a3, a4, a5, a6, a7], n < 65536) :
    Calls Tryd.prog 38 #[.agg #[.int .u16 (a0 : Int), .int .u16 (a1 : Int), .int .u16 (a2 : Int), .int .u16 (a3 : Int), .int .u16 (a4 : Int), .int .u16 (a5 : Int), .int .u16 (a6 : Int), .int .u16 (a7 : Int)]] w (Quiet8 (btx (text8 [a0, a1, a2, a3, a4, a5, a6, a7])) w) := by
  obtain ⟨B, E, hL⟩ : ∃ B E, Lr [a0, a1, a2, a3, a4, a5, a6, a7] 8 B E := ⟨_, _, rfl, rfl⟩
  obtain ⟨hBE, hE8⟩ := hL.bound rfl (Nat.le_refl _)
  have HLr := Lib.hid (fun w => lrun_is hL hl w)
  have HT := Lib.hid (text_by hL)
  have HRow : Hid (RowU 24 (w.alloc (.cells #[.int .u16 (a0 : Int), .int .u16 (a1 : Int), .int .u16 (a2 : Int), .int .u16 (a3 : Int), .int .u16 (a4 : Int), .int .u16 (a5 : Int), .int .u16 (a6 : Int), .int .u16 (a7 : Int)] 24)) w.heap.size [a0, a1, a2, a3, a4, a5, a6, a7]) := by
    show RowU _ _ _ _
    exact RowU.new 24 w [a0, a1, a2, a3, a4, a5, a6, a7]
  have HB0 : Hid (Below w.heap.size w (w.alloc (.cells #[.int .u16 (a0 : Int), .int .u16 (a1 : Int), .int .u16 (a2 : Int), .int .u16 (a3 : Int), .int .u16 (a4 : Int), .int .u16 (a5 : Int), .int .u16 (a6 : Int), .int .u16 (a7 : Int)] 24))) := by
    show Below _ _ _
    exact (Below.refl _ _).alloc (Nat.le_refl _) _
  have HV := Lib.hid hv
  have HLen : Hid ([a0, a1, a2, a3, a4, a5, a6, a7].length = 8) := Lib.hid rfl
  clear hv hL
  obtain ⟨l, hll⟩ : ∃ l, [a0, a1, a2, a3, a4, a5, a6, a7] = l := ⟨_, rfl⟩
  rw [hll] at HT HRow HLen hl ⊢
  clear hll
  have H6 := Lib.hid hl
  clear hl
  by_cases h2 : E - B < 2
  · have h2i : (E : Int) - (B : Int) < 2 := by omega
    have HT2 : Hid (text8 l = join8 l) := HT.out.trans (if_pos h2)
    go_enter Tryd.func38, Tryd.ntmps38
    go_wp2_with (first
      | (go_at_call 45; (with_reducible refine (HLr.out _).mono ?_); rintro e w1 ⟨rfl, hb⟩; have HB1 := Lib.hid (bnx8 HB0.out hb); have HR1 := Lib.hid (HRow.out.below hb); clear hb)
      | (go_at_call 46; (with_reducible refine (join_is HLen.out _ (HV.out.below HB1.out) (Nat.le_of_eq HLen.out) H6.out (row_all HR1.out)).mono ?_); rintro e w2 ⟨rfl, hb⟩; have HB2 := Lib.hid (bnx8 HB1.out hb); clear hb))
    go_ret
    exact ⟨by rw [HT2.out]; rfl, HB2.out⟩
  · have h2i : ¬ ((E : Int) - (B : Int) < 2) := by omega
    have HT2 : Hid (text8 l = join8 (l.take B) ++ 58 :: 58 :: join8 (l.drop E)) := HT.out.trans (if_neg h2)
    have HLt : Hid ((l.take B).length = B) := by
      show (l.take B).length = B
      rw [List.length_take, HLen.out]; omega
    have HLd : Hid ((l.drop E).length = 8 - E) := by
      show (l.drop E).length = 8 - E
      rw [List.length_drop, HLen.out]
    have H6t : Hid (∀ n ∈ l.take B, n < 65536) := fun n hn => H6.out n (List.mem_of_mem_take hn)
    have H6d : Hid (∀ n ∈ l.drop E, n < 65536) := fun n hn => H6.out n (List.mem_of_mem_drop hn)
    have H8t : Hid ((l.take B).length ≤ 8) := by
      show (l.take B).length ≤ 8
      rw [HLt.out]; omega
    have H8d : Hid ((l.drop E).length ≤ 8) := by
      show (l.drop E).length ≤ 8
      rw [HLd.out]; omega
    have hst := join_size H8t.out H6t.out
    have hsd := join_size H8d.out H6d.out
    have hB0 : (0 : Int) ≤ (B : Int) := by omega
    have hB8 : (B : Int) ≤ 8 := by omega
    have hE0 : (0 : Int) ≤ (E : Int) := by omega
    have hE8i : (E : Int) ≤ 8 := by omega
    have hEn : ¬ (E = 0) := by omega
    by_cases h8 : E = 8
    · subst h8
      have HDn : Hid (l.drop 8 = []) := Lib.hid (List.drop_eq_nil_of_le (Nat.le_of_eq HLen.out))
      have HT3 : Hid (text8 l = join8 (l.take B) ++ 58 :: 58 :: join8 []) := by
        show text8 l = _
        rw [HT2.out, HDn.out]
      clear hsd HLd H6d H8d HDn
      have hz1 : ¬ (9223372036854775807 < (btx (join8 (l.take B))).size + 2) := by omega
      have hz2 : ¬ (9223372036854775807 < (btx (join8 (l.take B))).size + 2 + (btx (join8 [])).size) := by
        have : (btx (join8 [])).size = 0 := rfl
        omega
      go_enter Tryd.func38, Tryd.ntmps38
      go_wp2_with (go_at_call 45; (with_reducible refine (HLr.out _).mono ?_); rintro e w1 ⟨rfl, hb⟩; have HB1 := Lib.hid (bnx8 HB0.out hb); have HR1 := Lib.hid (HRow.out.below hb); have HB1d := Lib.hid HB1.out.drew; have HV1d := Lib.hid (HV.out.below HB1d.out); have HR1d := Lib.hid (RowU.heap8 (W' := w1.drew) HR1.out rfl); clear hb)
      go_region_with (first
        | (go_at_call 46; (with_reducible refine (join_nil8 _ HV2.out).mono ?_); rintro e w3 ⟨rfl, hb⟩; have HB3 := Lib.hid (bnx8 HB2.out hb); clear hb)
        | (go_at_call 46; (with_reducible refine (join_is HLt.out _ HV1d.out H8t.out H6t.out (row_to HR1d.out B)).mono ?_); rintro e w2 ⟨rfl, hb⟩; have HB2 := Lib.hid (bnx8 HB1d.out hb); have HV2 := Lib.hid (HV.out.below HB2.out); clear hb))
      all_goals
        go_wp2
        go_ret
        refine ⟨?_, HB3.out⟩
        rw [HT3.out, ← btx3]
        rfl
    · have h8n : ¬ (8 = E) := fun h => h8 h.symm
      have hz1 : ¬ (9223372036854775807 < (btx (join8 (l.take B))).size + 2) := by omega
      have hz2 : ¬ (9223372036854775807 < (btx (join8 (l.take B))).size + 2 + (btx (join8 (l.drop E))).size) := by omega
      clear hst hsd
      go_enter Tryd.func38, Tryd.ntmps38
      go_wp2_with (go_at_call 45; (with_reducible refine (HLr.out _).mono ?_); rintro e w1 ⟨rfl, hb⟩; have HB1 := Lib.hid (bnx8 HB0.out hb); have HR1 := Lib.hid (HRow.out.below hb); have HB1d := Lib.hid HB1.out.drew; have HV1d := Lib.hid (HV.out.below HB1d.out); have HR1d := Lib.hid (RowU.heap8 (W' := w1.drew) HR1.out rfl); clear hb)
      go_region_with (first
        | (go_at_call 46; (with_reducible refine (join_is HLd.out _ HV2.out H8d.out H6d.out (row_from HR2.out E)).mono ?_); rintro e w3 ⟨rfl, hb⟩; have HB3 := Lib.hid (bnx8 HB2.out hb); clear hb)
        | (go_at_call 46; (with_reducible refine (join_is HLt.out _ HV1d.out H8t.out H6t.out (row_to HR1d.out B)).mono ?_); rintro e w2 ⟨rfl, hb⟩; have HB2 := Lib.hid (bnx8 HB1d.out hb); have HV2 := Lib.hid (HV.out.below HB2.out); have HR2 := Lib.hid (HR1d.out.below hb); clear hb))
      all_goals
        go_wp2
        go_ret
        refine ⟨?_, HB3.out⟩
        rw [HT2.out, ← btx3]
        rfl
end Go.Proofs.YtliklhldlofnjaaDoor

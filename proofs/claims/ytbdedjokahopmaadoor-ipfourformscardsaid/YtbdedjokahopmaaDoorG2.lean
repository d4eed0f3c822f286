/-
  In this text, one behind the other: XNum, FBase, XSplit, XEnds, XParse, XText, ZShelf, ZText, FSmall.
-/
import Derived.WalkKit
import Derived.WalkSpells
import Derived.WalkLawsBesides
import Derived.Lib.Hide
import Derived.LaidEql
import Derived.Stop.Asserts
import Derived.RowKitTokens
import Derived.Maps.AppendAt
import Derived.Shelf.Strings.Split
import Derived.Shelf.Strconv.Itoa3
import Derived.Laws.BitsAllLaws
import Derived.Test.YtbdedjokahopmaaDoorG1
import Derived.Test.YtbdedjokahopmaaDoorRows
/-
  The document's number of layer 7, by its contract.
-/
namespace Go.Proofs.YtbdedjokahopmaaDoor
open Go.RowKit

theorem value7_any (b : UInt8) (w : World) :
    Calls Tryd.prog 38 #[.int .u8 (b.toNat : Int)] w fun e w' => e = .returned (.int .i64 (val b.toNat)) ∧ w = w' := by
  have h1 := b.toNat_lt
  obtain ⟨c, hc⟩ : ∃ c : Int, (b.toNat : Int) = c := ⟨_, rfl⟩
  rw [hc]
  have h0 : 0 ≤ c := by omega
  have h2 : c ≤ 255 := by omega
  clear hc h1
  go_enter Tryd.func38, Tryd.ntmps38
  go_wp2
  all_goals
    go_ret
    refine ⟨ret_int ?_, rfl⟩
    unfold val
    repeat' split
    all_goals omega
theorem value7_is {b : UInt8} {x : Int} (h : val b.toNat = x) (w : World) :
    Calls Tryd.prog 38 #[.int .u8 (b.toNat : Int)] w fun e w' => e = .returned (.int .i64 x) ∧ w = w' := h ▸ value7_any b w
/-- A number stops at 2^40. -/
def cap7 (n : Nat) : Nat := if 1099511627776 < n then 1099511627776 else n
def numI (s : List UInt8) : Int := match num7 s with
  | none => -1
  | some n => cap7 n
theorem cap7_le (n : Nat) : cap7 n ≤ 1099511627776 := by unfold cap7; split <;> omega
theorem cap7_step (v base d : Nat) (hb : 1 ≤ base) : cap7 (v * base + d) = cap7 (cap7 v * base + d) := by
  by_cases h : 1099511627776 < v
  · have h1 : v * 1 ≤ v * base := Nat.mul_le_mul_left _ hb
    have h2 : 1099511627776 * 1 ≤ 1099511627776 * base := Nat.mul_le_mul_left _ hb
    have e : cap7 v = 1099511627776 := by unfold cap7; rw [if_pos h]
    rw [e]
    unfold cap7
    split
    · split <;> omega
    · omega
  · have e : cap7 v = v := by unfold cap7; rw [if_neg h]
    rw [e]
theorem take_sub {l : List UInt8} {m k : Nat} (h : k < l.length) (hm : m ≤ k) : (l.drop m).take (k + 1 - m) = (l.drop m).take (k - m) ++ [l[k]] := by
  rw [show k + 1 - m = (k - m) + 1 by omega, List.take_succ_eq_append_getElem (by rw [List.length_drop]; omega)]
  congr 2
  rw [List.getElem_drop]
  congr 1
  omega
theorem digs_good {base v : Nat} {l : List UInt8} {b : UInt8} (h : digs base 0 l = some v) (h0 : 0 ≤ val b.toNat) (h1 : val b.toNat < base) : digs base 0 (l ++ [b]) = some (v * base + (val b.toNat).toNat) := by
  rw [digs_append, h]
  show digs base v [b] = _
  unfold digs
  rw [if_pos ⟨h0, h1⟩]
  rfl
theorem digs_bad {base v : Nat} {l : List UInt8} {b : UInt8} (h : digs base 0 l = some v) (h0 : ¬ (0 ≤ val b.toNat ∧ val b.toNat < base)) (r : List UInt8) : digs base 0 ((l ++ [b]) ++ r) = none := by
  rw [digs_append, digs_append, h]
  show (digs base v [b]).bind _ = none
  have : digs base v [b] = none := by unfold digs; rw [if_neg h0]
  rw [this]
  rfl
theorem num7_of {s t : List UInt8} {base : Nat} (hs : s ≠ []) (hb : base7 s = (base, t)) : num7 s = digs base 0 t := by
  unfold num7
  rw [if_neg hs, hb]
theorem val_le (b : UInt8) : -1 ≤ val b.toNat ∧ val b.toNat ≤ 15 := by
  unfold val
  repeat' split
  all_goals omega
theorem base_a {s : ByteArray} (h : 1 < s.size) (h0 : (s[0]'(by omega)).toNat = 48) (h1 : (s[1]'h).toNat = 120 ∨ (s[1]'h).toNat = 88) : base7 s.data.toList = (16, s.data.toList.drop 2) := by
  obtain ⟨x, y, t, e⟩ : ∃ x y t, s.data.toList = x :: y :: t := by
    match hl : s.data.toList with
    | [] => have : s.data.toList.length = s.size := by simp
            rw [hl] at this; simp at this; omega
    | [_] => have : s.data.toList.length = s.size := by simp
             rw [hl] at this; simp at this; omega
    | x :: y :: t => exact ⟨x, y, t, rfl⟩
  have e0 : s[0]'(by omega) = x := by
    have : s.data.toList[0]? = some x := by rw [e]; rfl
    have h2 : s.data.toList[0]? = some (s[0]'(by omega)) := by rw [Array.getElem?_toList]; exact Array.getElem?_eq_getElem _
    exact Option.some.inj (h2.symm.trans this)
  have e1 : s[1]'h = y := by
    have : s.data.toList[1]? = some y := by rw [e]; rfl
    have h2 : s.data.toList[1]? = some (s[1]'h) := by rw [Array.getElem?_toList]; exact Array.getElem?_eq_getElem _
    exact Option.some.inj (h2.symm.trans this)
  rw [e0] at h0
  rw [e1] at h1
  have hx : x = 48 := UInt8.toNat_inj.1 h0
  have hy : y = 120 ∨ y = 88 := h1.elim (fun h => .inl (UInt8.toNat_inj.1 h)) (fun h => .inr (UInt8.toNat_inj.1 h))
  rw [e, hx]
  show (if y = 120 ∨ y = 88 then (16, t) else (8, y :: t)) = _
  rw [if_pos hy]
  rfl
theorem base_b {s : ByteArray} (h : 1 < s.size) (h0 : (s[0]'(by omega)).toNat = 48) (h1 : ¬ ((s[1]'h).toNat = 120 ∨ (s[1]'h).toNat = 88)) : base7 s.data.toList = (8, s.data.toList.drop 1) := by
  obtain ⟨x, y, t, e⟩ : ∃ x y t, s.data.toList = x :: y :: t := by
    match hl : s.data.toList with
    | [] => have : s.data.toList.length = s.size := by simp
            rw [hl] at this; simp at this; omega
    | [_] => have : s.data.toList.length = s.size := by simp
             rw [hl] at this; simp at this; omega
    | x :: y :: t => exact ⟨x, y, t, rfl⟩
  have e0 : s[0]'(by omega) = x := by
    have : s.data.toList[0]? = some x := by rw [e]; rfl
    have h2 : s.data.toList[0]? = some (s[0]'(by omega)) := by rw [Array.getElem?_toList]; exact Array.getElem?_eq_getElem _
    exact Option.some.inj (h2.symm.trans this)
  have e1 : s[1]'h = y := by
    have : s.data.toList[1]? = some y := by rw [e]; rfl
    have h2 : s.data.toList[1]? = some (s[1]'h) := by rw [Array.getElem?_toList]; exact Array.getElem?_eq_getElem _
    exact Option.some.inj (h2.symm.trans this)
  rw [e0] at h0
  rw [e1] at h1
  have hx : x = 48 := UInt8.toNat_inj.1 h0
  have hy : ¬ (y = 120 ∨ y = 88) := fun h => h1 (h.elim (fun h => .inl (by rw [h]; rfl)) (fun h => .inr (by rw [h]; rfl)))
  rw [e, hx]
  show (if y = 120 ∨ y = 88 then (16, t) else (8, y :: t)) = _
  rw [if_neg hy]
  rfl
theorem base_c {s : ByteArray} (h : s.size = 1 ∨ ∃ h : 0 < s.size, ¬ (s[0]'h).toNat = 48) : base7 s.data.toList = (10, s.data.toList.drop 0) := by
  rw [List.drop_zero]
  match hl : s.data.toList with
  | [] => rfl
  | [x] => unfold base7; split
           · rename_i e; cases e
           · rfl
  | x :: y :: t =>
    have hlen : s.data.toList.length = s.size := by simp
    rcases h with h | ⟨h, h0⟩
    · rw [hl] at hlen; simp at hlen; omega
    · have : s.data.toList[0]? = some x := by rw [hl]; rfl
      have h2 : s.data.toList[0]? = some (s[0]'h) := by rw [Array.getElem?_toList]; exact Array.getElem?_eq_getElem _
      have e0 : s[0]'h = x := Option.some.inj (h2.symm.trans this)
      rw [e0] at h0
      unfold base7
      split
      · rename_i e
        cases e
        exact absurd rfl h0
      · rfl

set_option maxHeartbeats 2000000 in
set_option maxRecDepth 100000 in
theorem number7_any (s : ByteArray) (w : World) (hs : s.size ≤ 10000) :
    Calls Tryd.prog 23 #[.string s] w fun e w' => e = .returned (.int .i64 (numI s.data.toList)) ∧ w = w' := by
  have HSl : Hid (s.data.toList.length = s.size) := by show s.data.toList.length = s.size; simp
  by_cases h0 : s.size = 0
  · have HN : Hid (numI s.data.toList = -1) := by
      show numI s.data.toList = -1
      have : s.data.toList = [] := List.eq_nil_of_length_eq_zero (by rw [HSl.out]; exact h0)
      rw [this]; rfl
    go_enter Tryd.func23, Tryd.ntmps23
    go_wp2
    go_ret
    exact ⟨by rw [HN.out]; rfl, rfl⟩
  · have hpos : 0 < s.size := by omega
    have hne : s.data.toList ≠ [] := fun e => h0 (by rw [← HSl.out, e]; rfl)
    have hz : ((s.size : Int) == 0) = false := beq_eq_false_iff_ne.2 (by omega)
    by_cases h1 : 1 < s.size
    · have hi1 : (1 : Int) < (s.size : Int) := by omega
      have hdi : decide ((1 : Int) < (s.size : Int)) = true := by simp; omega
      by_cases h2 : (s[0]'hpos).toNat = 48
      · have hc0 : (((s[0]'hpos).toNat : Int) == 48) = true := by rw [h2]; rfl
        by_cases h3 : (s[1]'h1).toNat = 120 ∨ (s[1]'h1).toNat = 88
        · have HB := Lib.hid (num7_of hne (base_a h1 h2 h3))
          clear h0 hne
          go_enter Tryd.func23, Tryd.ntmps23
          by_cases h4 : (s[1]'h1).toNat = 120
          · have hc1 : (((s[1]'h1).toNat : Int) == 120) = true := by rw [h4]; rfl
            clear h3 h2 h4
            go_wp2
            go_loopw [5, 6] (fun v5 i wr => ∃ k v : Nat, 2 ≤ k ∧ k ≤ s.size ∧ i = .int .i64 k ∧ v5 = .int .i64 (cap7 v) ∧ wr = w ∧ digs 16 0 ((s.data.toList.drop 2).take (k - 2)) = some v) (fun _ i _ => s.size - (intOf i).toNat)
            case atStart => exact ⟨2, 0, Nat.le_refl _, by omega, rfl, rfl, rfl, by rw [Nat.sub_self]; rfl⟩
            case round =>
              obtain ⟨k, v, hk0, hk, rfl, rfl, hw, hd⟩ := hrel
              have hw' := hw.symm
              subst hw'
              clear hw
              have HD := Lib.hid hd
              clear hd
              by_cases hlt : k < s.size
              · have hlen : k < s.data.toList.length := by rw [HSl.out]; exact hlt
                have hu := val_le (s[k]'hlt)
                have HT := Lib.hid (take_sub hlen hk0)
                have hge : s.data.toList[k] = s[k]'hlt := by simp; rfl
                rw [hge] at HT
                clear hlen hge
                by_cases hg : 0 ≤ val (s[k]'hlt).toNat ∧ val (s[k]'hlt).toNat < 16
                · have HG := Lib.hid (digs_good HD.out hg.1 hg.2)
                  have HC := Lib.hid (cap7_step v 16 (val (s[k]'hlt).toNat).toNat (by omega))
                  obtain ⟨d, hd⟩ : ∃ d : Nat, val (s[k]'hlt).toNat = d := ⟨(val (s[k]'hlt).toNat).toNat, by omega⟩
                  have HV := Lib.hid hd
                  rw [hd] at hg HG HC
                  have hd0 := hg.1
                  have hd1 := hg.2
                  clear hd hu hg
                  rw [Int.toNat_natCast] at HG HC
                  have hcl := cap7_le v
                  obtain ⟨q, hq⟩ : ∃ q, cap7 v = q := ⟨_, rfl⟩
                  rw [hq] at hcl HC
                  simp only [hq]
                  clear hq
                  by_cases hover : 1099511627776 < q * 16 + d
                  · have HE : Hid (cap7 (v * 16 + d) = 1099511627776) := by
                      show cap7 (v * 16 + d) = 1099511627776
                      rw [HC.out]; unfold cap7; rw [if_pos hover]
                    clear HC
                    go_wp2_with (go_at_call 38; refine (value7_is HV.out _).mono ?_; rintro e w' ⟨rfl, rfl⟩)
                    all_goals
                      go_roundw
                      case rel => exact ⟨k + 1, v * 16 + d, by omega, by omega, by go_num, by rw [HE.out]; rfl, by first | rfl | trivial, by rw [HT.out]; exact HG.out⟩
                      case measure => simp [intOf]; omega
                  · have HE : Hid (cap7 (v * 16 + d) = q * 16 + d) := by
                      show cap7 (v * 16 + d) = q * 16 + d
                      rw [HC.out]; unfold cap7; rw [if_neg hover]
                    clear HC
                    go_wp2_with (go_at_call 38; refine (value7_is HV.out _).mono ?_; rintro e w' ⟨rfl, rfl⟩)
                    all_goals
                      go_roundw
                      case rel => exact ⟨k + 1, v * 16 + d, by omega, by omega, by go_num, by rw [HE.out]; simp, by first | rfl | trivial, by rw [HT.out]; exact HG.out⟩
                      case measure => simp [intOf]; omega
                · have HN : Hid (numI s.data.toList = -1) := by
                    show numI s.data.toList = -1
                    have hb := digs_bad HD.out hg (((s.data.toList.drop 2).drop (k + 1 - 2)))
                    rw [← HT.out, List.take_append_drop] at hb
                    unfold numI
                    rw [HB.out, hb]
                  obtain ⟨x, hx⟩ : ∃ x : Int, val (s[k]'hlt).toNat = x := ⟨_, rfl⟩
                  have HV := Lib.hid hx
                  rw [hx] at hg hu
                  clear hx
                  obtain ⟨hu0, hu1⟩ := hu
                  by_cases hx0 : 0 ≤ x
                  · have hx1 : 16 ≤ x := by omega
                    clear hg
                    go_wp2_with (go_at_call 38; refine (value7_is HV.out _).mono ?_; rintro e w' ⟨rfl, rfl⟩)
                    all_goals
                      go_ret
                      exact ⟨by rw [HN.out]; rfl, rfl⟩
                  · clear hg
                    go_wp2_with (go_at_call 38; refine (value7_is HV.out _).mono ?_; rintro e w' ⟨rfl, rfl⟩)
                    all_goals
                      go_ret
                      exact ⟨by rw [HN.out]; rfl, rfl⟩
              · have HN : Hid (numI s.data.toList = (cap7 v : Nat)) := by
                  show numI s.data.toList = (cap7 v : Nat)
                  have := HD.out
                  rw [List.take_of_length_le (by rw [List.length_drop, HSl.out]; omega)] at this
                  unfold numI
                  rw [HB.out, this]
                go_wp2
                go_ret
                exact ⟨by rw [HN.out]; rfl, rfl⟩
          · have hc1 : (((s[1]'h1).toNat : Int) == 120) = false := by simp; omega
            have hc2 : (((s[1]'h1).toNat : Int) == 88) = true := by rw [h3.resolve_left h4]; rfl
            clear h3 h2 h4
            go_wp2
            go_loopw [5, 6] (fun v5 i wr => ∃ k v : Nat, 2 ≤ k ∧ k ≤ s.size ∧ i = .int .i64 k ∧ v5 = .int .i64 (cap7 v) ∧ wr = w ∧ digs 16 0 ((s.data.toList.drop 2).take (k - 2)) = some v) (fun _ i _ => s.size - (intOf i).toNat)
            case atStart => exact ⟨2, 0, Nat.le_refl _, by omega, rfl, rfl, rfl, by rw [Nat.sub_self]; rfl⟩
            case round =>
              obtain ⟨k, v, hk0, hk, rfl, rfl, hw, hd⟩ := hrel
              have hw' := hw.symm
              subst hw'
              clear hw
              have HD := Lib.hid hd
              clear hd
              by_cases hlt : k < s.size
              · have hlen : k < s.data.toList.length := by rw [HSl.out]; exact hlt
                have hu := val_le (s[k]'hlt)
                have HT := Lib.hid (take_sub hlen hk0)
                have hge : s.data.toList[k] = s[k]'hlt := by simp; rfl
                rw [hge] at HT
                clear hlen hge
                by_cases hg : 0 ≤ val (s[k]'hlt).toNat ∧ val (s[k]'hlt).toNat < 16
                · have HG := Lib.hid (digs_good HD.out hg.1 hg.2)
                  have HC := Lib.hid (cap7_step v 16 (val (s[k]'hlt).toNat).toNat (by omega))
                  obtain ⟨d, hd⟩ : ∃ d : Nat, val (s[k]'hlt).toNat = d := ⟨(val (s[k]'hlt).toNat).toNat, by omega⟩
                  have HV := Lib.hid hd
                  rw [hd] at hg HG HC
                  have hd0 := hg.1
                  have hd1 := hg.2
                  clear hd hu hg
                  rw [Int.toNat_natCast] at HG HC
                  have hcl := cap7_le v
                  obtain ⟨q, hq⟩ : ∃ q, cap7 v = q := ⟨_, rfl⟩
                  rw [hq] at hcl HC
                  simp only [hq]
                  clear hq
                  by_cases hover : 1099511627776 < q * 16 + d
                  · have HE : Hid (cap7 (v * 16 + d) = 1099511627776) := by
                      show cap7 (v * 16 + d) = 1099511627776
                      rw [HC.out]; unfold cap7; rw [if_pos hover]
                    clear HC
                    go_wp2_with (go_at_call 38; refine (value7_is HV.out _).mono ?_; rintro e w' ⟨rfl, rfl⟩)
                    all_goals
                      go_roundw
                      case rel => exact ⟨k + 1, v * 16 + d, by omega, by omega, by go_num, by rw [HE.out]; rfl, by first | rfl | trivial, by rw [HT.out]; exact HG.out⟩
                      case measure => simp [intOf]; omega
                  · have HE : Hid (cap7 (v * 16 + d) = q * 16 + d) := by
                      show cap7 (v * 16 + d) = q * 16 + d
                      rw [HC.out]; unfold cap7; rw [if_neg hover]
                    clear HC
                    go_wp2_with (go_at_call 38; refine (value7_is HV.out _).mono ?_; rintro e w' ⟨rfl, rfl⟩)
                    all_goals
                      go_roundw
                      case rel => exact ⟨k + 1, v * 16 + d, by omega, by omega, by go_num, by rw [HE.out]; simp, by first | rfl | trivial, by rw [HT.out]; exact HG.out⟩
                      case measure => simp [intOf]; omega
                · have HN : Hid (numI s.data.toList = -1) := by
                    show numI s.data.toList = -1
                    have hb := digs_bad HD.out hg (((s.data.toList.drop 2).drop (k + 1 - 2)))
                    rw [← HT.out, List.take_append_drop] at hb
                    unfold numI
                    rw [HB.out, hb]
                  obtain ⟨x, hx⟩ : ∃ x : Int, val (s[k]'hlt).toNat = x := ⟨_, rfl⟩
                  have HV := Lib.hid hx
                  rw [hx] at hg hu
                  clear hx
                  obtain ⟨hu0, hu1⟩ := hu
                  by_cases hx0 : 0 ≤ x
                  · have hx1 : 16 ≤ x := by omega
                    clear hg
                    go_wp2_with (go_at_call 38; refine (value7_is HV.out _).mono ?_; rintro e w' ⟨rfl, rfl⟩)
                    all_goals
                      go_ret
                      exact ⟨by rw [HN.out]; rfl, rfl⟩
                  · clear hg
                    go_wp2_with (go_at_call 38; refine (value7_is HV.out _).mono ?_; rintro e w' ⟨rfl, rfl⟩)
                    all_goals
                      go_ret
                      exact ⟨by rw [HN.out]; rfl, rfl⟩
              · have HN : Hid (numI s.data.toList = (cap7 v : Nat)) := by
                  show numI s.data.toList = (cap7 v : Nat)
                  have := HD.out
                  rw [List.take_of_length_le (by rw [List.length_drop, HSl.out]; omega)] at this
                  unfold numI
                  rw [HB.out, this]
                go_wp2
                go_ret
                exact ⟨by rw [HN.out]; rfl, rfl⟩
        · have HB := Lib.hid (num7_of hne (base_b h1 h2 h3))
          have hc1 : (((s[1]'h1).toNat : Int) == 120) = false := by simp; omega
          have hc2 : (((s[1]'h1).toNat : Int) == 88) = false := by simp; omega
          clear h0 hne h3 h2
          go_enter Tryd.func23, Tryd.ntmps23
          go_wp2
          go_loopw [5, 6] (fun v5 i wr => ∃ k v : Nat, 1 ≤ k ∧ k ≤ s.size ∧ i = .int .i64 k ∧ v5 = .int .i64 (cap7 v) ∧ wr = w ∧ digs 8 0 ((s.data.toList.drop 1).take (k - 1)) = some v) (fun _ i _ => s.size - (intOf i).toNat)
          case atStart => exact ⟨1, 0, Nat.le_refl _, by omega, rfl, rfl, rfl, by rw [Nat.sub_self]; rfl⟩
          case round =>
            obtain ⟨k, v, hk0, hk, rfl, rfl, hw, hd⟩ := hrel
            have hw' := hw.symm
            subst hw'
            clear hw
            have HD := Lib.hid hd
            clear hd
            by_cases hlt : k < s.size
            · have hlen : k < s.data.toList.length := by rw [HSl.out]; exact hlt
              have hu := val_le (s[k]'hlt)
              have HT := Lib.hid (take_sub hlen hk0)
              have hge : s.data.toList[k] = s[k]'hlt := by simp; rfl
              rw [hge] at HT
              clear hlen hge
              by_cases hg : 0 ≤ val (s[k]'hlt).toNat ∧ val (s[k]'hlt).toNat < 8
              · have HG := Lib.hid (digs_good HD.out hg.1 hg.2)
                have HC := Lib.hid (cap7_step v 8 (val (s[k]'hlt).toNat).toNat (by omega))
                obtain ⟨d, hd⟩ : ∃ d : Nat, val (s[k]'hlt).toNat = d := ⟨(val (s[k]'hlt).toNat).toNat, by omega⟩
                have HV := Lib.hid hd
                rw [hd] at hg HG HC
                have hd0 := hg.1
                have hd1 := hg.2
                clear hd hu hg
                rw [Int.toNat_natCast] at HG HC
                have hcl := cap7_le v
                obtain ⟨q, hq⟩ : ∃ q, cap7 v = q := ⟨_, rfl⟩
                rw [hq] at hcl HC
                simp only [hq]
                clear hq
                by_cases hover : 1099511627776 < q * 8 + d
                · have HE : Hid (cap7 (v * 8 + d) = 1099511627776) := by
                    show cap7 (v * 8 + d) = 1099511627776
                    rw [HC.out]; unfold cap7; rw [if_pos hover]
                  clear HC
                  go_wp2_with (go_at_call 38; refine (value7_is HV.out _).mono ?_; rintro e w' ⟨rfl, rfl⟩)
                  all_goals
                    go_roundw
                    case rel => exact ⟨k + 1, v * 8 + d, by omega, by omega, by go_num, by rw [HE.out]; rfl, by first | rfl | trivial, by rw [HT.out]; exact HG.out⟩
                    case measure => simp [intOf]; omega
                · have HE : Hid (cap7 (v * 8 + d) = q * 8 + d) := by
                    show cap7 (v * 8 + d) = q * 8 + d
                    rw [HC.out]; unfold cap7; rw [if_neg hover]
                  clear HC
                  go_wp2_with (go_at_call 38; refine (value7_is HV.out _).mono ?_; rintro e w' ⟨rfl, rfl⟩)
                  all_goals
                    go_roundw
                    case rel => exact ⟨k + 1, v * 8 + d, by omega, by omega, by go_num, by rw [HE.out]; simp, by first | rfl | trivial, by rw [HT.out]; exact HG.out⟩
                    case measure => simp [intOf]; omega
              · have HN : Hid (numI s.data.toList = -1) := by
                  show numI s.data.toList = -1
                  have hb := digs_bad HD.out hg (((s.data.toList.drop 1).drop (k + 1 - 1)))
                  rw [← HT.out, List.take_append_drop] at hb
                  unfold numI
                  rw [HB.out, hb]
                obtain ⟨x, hx⟩ : ∃ x : Int, val (s[k]'hlt).toNat = x := ⟨_, rfl⟩
                have HV := Lib.hid hx
                rw [hx] at hg hu
                clear hx
                obtain ⟨hu0, hu1⟩ := hu
                by_cases hx0 : 0 ≤ x
                · have hx1 : 8 ≤ x := by omega
                  clear hg
                  go_wp2_with (go_at_call 38; refine (value7_is HV.out _).mono ?_; rintro e w' ⟨rfl, rfl⟩)
                  all_goals
                    go_ret
                    exact ⟨by rw [HN.out]; rfl, rfl⟩
                · clear hg
                  go_wp2_with (go_at_call 38; refine (value7_is HV.out _).mono ?_; rintro e w' ⟨rfl, rfl⟩)
                  all_goals
                    go_ret
                    exact ⟨by rw [HN.out]; rfl, rfl⟩
            · have HN : Hid (numI s.data.toList = (cap7 v : Nat)) := by
                show numI s.data.toList = (cap7 v : Nat)
                have := HD.out
                rw [List.take_of_length_le (by rw [List.length_drop, HSl.out]; omega)] at this
                unfold numI
                rw [HB.out, this]
              go_wp2
              go_ret
              exact ⟨by rw [HN.out]; rfl, rfl⟩
      · have HB := Lib.hid (num7_of hne (base_c (.inr ⟨hpos, h2⟩)))
        have hc0 : (((s[0]'hpos).toNat : Int) == 48) = false := by simp; omega
        clear h0 hne h2
        go_enter Tryd.func23, Tryd.ntmps23
        go_wp2
        go_loopw [5, 6] (fun v5 i wr => ∃ k v : Nat, 0 ≤ k ∧ k ≤ s.size ∧ i = .int .i64 k ∧ v5 = .int .i64 (cap7 v) ∧ wr = w ∧ digs 10 0 ((s.data.toList.drop 0).take (k - 0)) = some v) (fun _ i _ => s.size - (intOf i).toNat)
        case atStart => exact ⟨0, 0, Nat.le_refl _, by omega, rfl, rfl, rfl, by rw [Nat.sub_self]; rfl⟩
        case round =>
          obtain ⟨k, v, hk0, hk, rfl, rfl, hw, hd⟩ := hrel
          have hw' := hw.symm
          subst hw'
          clear hw
          have HD := Lib.hid hd
          clear hd
          by_cases hlt : k < s.size
          · have hlen : k < s.data.toList.length := by rw [HSl.out]; exact hlt
            have hu := val_le (s[k]'hlt)
            have HT := Lib.hid (take_sub hlen hk0)
            have hge : s.data.toList[k] = s[k]'hlt := by simp; rfl
            rw [hge] at HT
            clear hlen hge
            by_cases hg : 0 ≤ val (s[k]'hlt).toNat ∧ val (s[k]'hlt).toNat < 10
            · have HG := Lib.hid (digs_good HD.out hg.1 hg.2)
              have HC := Lib.hid (cap7_step v 10 (val (s[k]'hlt).toNat).toNat (by omega))
              obtain ⟨d, hd⟩ : ∃ d : Nat, val (s[k]'hlt).toNat = d := ⟨(val (s[k]'hlt).toNat).toNat, by omega⟩
              have HV := Lib.hid hd
              rw [hd] at hg HG HC
              have hd0 := hg.1
              have hd1 := hg.2
              clear hd hu hg
              rw [Int.toNat_natCast] at HG HC
              have hcl := cap7_le v
              obtain ⟨q, hq⟩ : ∃ q, cap7 v = q := ⟨_, rfl⟩
              rw [hq] at hcl HC
              simp only [hq]
              clear hq
              by_cases hover : 1099511627776 < q * 10 + d
              · have HE : Hid (cap7 (v * 10 + d) = 1099511627776) := by
                  show cap7 (v * 10 + d) = 1099511627776
                  rw [HC.out]; unfold cap7; rw [if_pos hover]
                clear HC
                go_wp2_with (go_at_call 38; refine (value7_is HV.out _).mono ?_; rintro e w' ⟨rfl, rfl⟩)
                all_goals
                  go_roundw
                  case rel => exact ⟨k + 1, v * 10 + d, by omega, by omega, by go_num, by rw [HE.out]; rfl, by first | rfl | trivial, by rw [HT.out]; exact HG.out⟩
                  case measure => simp [intOf]; omega
              · have HE : Hid (cap7 (v * 10 + d) = q * 10 + d) := by
                  show cap7 (v * 10 + d) = q * 10 + d
                  rw [HC.out]; unfold cap7; rw [if_neg hover]
                clear HC
                go_wp2_with (go_at_call 38; refine (value7_is HV.out _).mono ?_; rintro e w' ⟨rfl, rfl⟩)
                all_goals
                  go_roundw
                  case rel => exact ⟨k + 1, v * 10 + d, by omega, by omega, by go_num, by rw [HE.out]; simp, by first | rfl | trivial, by rw [HT.out]; exact HG.out⟩
                  case measure => simp [intOf]; omega
            · have HN : Hid (numI s.data.toList = -1) := by
                show numI s.data.toList = -1
                have hb := digs_bad HD.out hg (((s.data.toList.drop 0).drop (k + 1 - 0)))
                rw [← HT.out, List.take_append_drop] at hb
                unfold numI
                rw [HB.out, hb]
              obtain ⟨x, hx⟩ : ∃ x : Int, val (s[k]'hlt).toNat = x := ⟨_, rfl⟩
              have HV := Lib.hid hx
              rw [hx] at hg hu
              clear hx
              obtain ⟨hu0, hu1⟩ := hu
              by_cases hx0 : 0 ≤ x
              · have hx1 : 10 ≤ x := by omega
                clear hg
                go_wp2_with (go_at_call 38; refine (value7_is HV.out _).mono ?_; rintro e w' ⟨rfl, rfl⟩)
                all_goals
                  go_ret
                  exact ⟨by rw [HN.out]; rfl, rfl⟩
              · clear hg
                go_wp2_with (go_at_call 38; refine (value7_is HV.out _).mono ?_; rintro e w' ⟨rfl, rfl⟩)
                all_goals
                  go_ret
                  exact ⟨by rw [HN.out]; rfl, rfl⟩
          · have HN : Hid (numI s.data.toList = (cap7 v : Nat)) := by
              show numI s.data.toList = (cap7 v : Nat)
              have := HD.out
              rw [List.take_of_length_le (by rw [List.length_drop, HSl.out]; omega)] at this
              unfold numI
              rw [HB.out, this]
            go_wp2
            go_ret
            exact ⟨by rw [HN.out]; rfl, rfl⟩
    · have HB := Lib.hid (num7_of hne (base_c (.inl (by omega))))
      have hi1 : ¬ (1 : Int) < (s.size : Int) := by omega
      have hdi : decide ((1 : Int) < (s.size : Int)) = false := by simp; omega
      clear h0 hne
      go_enter Tryd.func23, Tryd.ntmps23
      go_wp2
      go_loopw [5, 6] (fun v5 i wr => ∃ k v : Nat, 0 ≤ k ∧ k ≤ s.size ∧ i = .int .i64 k ∧ v5 = .int .i64 (cap7 v) ∧ wr = w ∧ digs 10 0 ((s.data.toList.drop 0).take (k - 0)) = some v) (fun _ i _ => s.size - (intOf i).toNat)
      case atStart => exact ⟨0, 0, Nat.le_refl _, by omega, rfl, rfl, rfl, by rw [Nat.sub_self]; rfl⟩
      case round =>
        obtain ⟨k, v, hk0, hk, rfl, rfl, hw, hd⟩ := hrel
        have hw' := hw.symm
        subst hw'
        clear hw
        have HD := Lib.hid hd
        clear hd
        by_cases hlt : k < s.size
        · have hlen : k < s.data.toList.length := by rw [HSl.out]; exact hlt
          have hu := val_le (s[k]'hlt)
          have HT := Lib.hid (take_sub hlen hk0)
          have hge : s.data.toList[k] = s[k]'hlt := by simp; rfl
          rw [hge] at HT
          clear hlen hge
          by_cases hg : 0 ≤ val (s[k]'hlt).toNat ∧ val (s[k]'hlt).toNat < 10
          · have HG := Lib.hid (digs_good HD.out hg.1 hg.2)
            have HC := Lib.hid (cap7_step v 10 (val (s[k]'hlt).toNat).toNat (by omega))
            obtain ⟨d, hd⟩ : ∃ d : Nat, val (s[k]'hlt).toNat = d := ⟨(val (s[k]'hlt).toNat).toNat, by omega⟩
            have HV := Lib.hid hd
            rw [hd] at hg HG HC
            have hd0 := hg.1
            have hd1 := hg.2
            clear hd hu hg
            rw [Int.toNat_natCast] at HG HC
            have hcl := cap7_le v
            obtain ⟨q, hq⟩ : ∃ q, cap7 v = q := ⟨_, rfl⟩
            rw [hq] at hcl HC
            simp only [hq]
            clear hq
            by_cases hover : 1099511627776 < q * 10 + d
            · have HE : Hid (cap7 (v * 10 + d) = 1099511627776) := by
                show cap7 (v * 10 + d) = 1099511627776
                rw [HC.out]; unfold cap7; rw [if_pos hover]
              clear HC
              go_wp2_with (go_at_call 38; refine (value7_is HV.out _).mono ?_; rintro e w' ⟨rfl, rfl⟩)
              all_goals
                go_roundw
                case rel => exact ⟨k + 1, v * 10 + d, by omega, by omega, by go_num, by rw [HE.out]; rfl, by first | rfl | trivial, by rw [HT.out]; exact HG.out⟩
                case measure => simp [intOf]; omega
            · have HE : Hid (cap7 (v * 10 + d) = q * 10 + d) := by
                show cap7 (v * 10 + d) = q * 10 + d
                rw [HC.out]; unfold cap7; rw [if_neg hover]
              clear HC
              go_wp2_with (go_at_call 38; refine (value7_is HV.out _).mono ?_; rintro e w' ⟨rfl, rfl⟩)
              all_goals
                go_roundw
                case rel => exact ⟨k + 1, v * 10 + d, by omega, by omega, by go_num, by rw [HE.out]; simp, by first | rfl | trivial, by rw [HT.out]; exact HG.out⟩
                case measure => simp [intOf]; omega
          · have HN : Hid (numI s.data.toList = -1) := by
              show numI s.data.toList = -1
              have hb := digs_bad HD.out hg (((s.data.toList.drop 0).drop (k + 1 - 0)))
              rw [← HT.out, List.take_append_drop] at hb
              unfold numI
              rw [HB.out, hb]
            obtain ⟨x, hx⟩ : ∃ x : Int, val (s[k]'hlt).toNat = x := ⟨_, rfl⟩
            have HV := Lib.hid hx
            rw [hx] at hg hu
            clear hx
            obtain ⟨hu0, hu1⟩ := hu
            by_cases hx0 : 0 ≤ x
            · have hx1 : 10 ≤ x := by omega
              clear hg
              go_wp2_with (go_at_call 38; refine (value7_is HV.out _).mono ?_; rintro e w' ⟨rfl, rfl⟩)
              all_goals
                go_ret
                exact ⟨by rw [HN.out]; rfl, rfl⟩
            · clear hg
              go_wp2_with (go_at_call 38; refine (value7_is HV.out _).mono ?_; rintro e w' ⟨rfl, rfl⟩)
              all_goals
                go_ret
                exact ⟨by rw [HN.out]; rfl, rfl⟩
        · have HN : Hid (numI s.data.toList = (cap7 v : Nat)) := by
            show numI s.data.toList = (cap7 v : Nat)
            have := HD.out
            rw [List.take_of_length_le (by rw [List.length_drop, HSl.out]; omega)] at this
            unfold numI
            rw [HB.out, this]
          go_wp2
          go_ret
          exact ⟨by rw [HN.out]; rfl, rfl⟩
end Go.Proofs.YtbdedjokahopmaaDoor

/-
  Words for the errors of package fail: chains of wrapped errors in memory, and slices of strings.
-/
namespace Go.Proofs.YtbdedjokahopmaaDoor
open Go.RowKit

/-- An error value that is 'cs' wrapped round an end (the outermost call first): a number, or nothing. -/
def Chain (w : World) : List ByteArray → Option Int → Value → Prop
  | [], some n, v => v = .iface 30 (.int .i64 n)
  | [], none, v => v = .nilIface
  | c :: cs, o, v => ∃ b v', v = .iface 80 (.pointer (some ⟨b, 0, none⟩)) ∧ b < w.heap.size ∧
      w.cell? ⟨b, 0, none⟩ = some (.string c) ∧ w.cell? ⟨b, 1, none⟩ = some v' ∧ Chain w cs o v'

theorem Chain.below {w w' : World} (hb : Below w.heap.size w w') : ∀ {cs : List ByteArray} {o : Option Int} {v : Value}, Chain w cs o v → Chain w' cs o v
  | [], some _, _, h => h
  | [], none, _, h => h
  | _ :: _, _, _, ⟨b, v', e, hl, h0, h1, h2⟩ =>
    ⟨b, v', e, Nat.lt_of_lt_of_le hl hb.size, (hb.cell (p := ⟨b, 0, none⟩) hl).trans h0, (hb.cell (p := ⟨b, 1, none⟩) hl).trans h1, Chain.below hb h2⟩

/-- A slice of strings that reads as a list; nil let in. -/
def Strs (w : World) (A : Option Addr) (ss : List ByteArray) : Prop :=
  ∀ i s, ss[i]? = some s → ∃ b off, A = some ⟨b, off, none⟩ ∧ b < w.heap.size ∧ w.cell? ⟨b, off + i, none⟩ = some (.string s)

theorem Strs.below {w w' : World} {A : Option Addr} {ss : List ByteArray} (h : Strs w A ss) (hb : Below w.heap.size w w') : Strs w' A ss := by
  intro i s hs
  obtain ⟨b, off, e, hl, hc⟩ := h i s hs
  exact ⟨b, off, e, Nat.lt_of_lt_of_le hl hb.size, (hb.cell (p := ⟨b, off + i, none⟩) hl).trans hc⟩

theorem bytes_same {a b : ByteArray} (h : a = b) : (a.toList == b.toList) = true := by rw [h]; simp
theorem bytes_other {a b : ByteArray} (h : a ≠ b) : (a.toList == b.toList) = false := by
  rw [beq_eq_false_iff_ne, ByteArray.toList_eq, ByteArray.toList_eq]
  exact fun e => h (WideShapes.bytes_inj e)

/-- 20 texts of 60 bytes at most. -/
def few (ss : List ByteArray) : Bool := decide (ss.length ≤ 20) && (ss.take 21).all fun s => decide (s.size ≤ 60)

theorem few_false_long {ss : List ByteArray} (h : ¬ ss.length ≤ 20) : few ss = false := by simp [few]; omega
theorem few_false_at {ss : List ByteArray} {k : Nat} (hk : k < ss.length) (h21 : k < 21) (h : 60 < ss[k].size) : few ss = false := by
  simp only [few, Bool.and_eq_false_iff]
  right
  rw [List.all_eq_false]
  refine ⟨ss[k], ?_, by simp; omega⟩
  rw [List.mem_iff_getElem]
  exact ⟨k, by simp; omega, by simp⟩
theorem few_true {ss : List ByteArray} (hl : ss.length ≤ 20) (h : ∀ j, (hj : j < ss.length) → ss[j].size ≤ 60) : few ss = true := by
  simp only [few, Bool.and_eq_true, decide_eq_true_eq, List.all_eq_true]
  refine ⟨hl, fun s hs => ?_⟩
  obtain ⟨j, hj, rfl⟩ := List.mem_iff_getElem.1 (List.mem_of_mem_take hs)
  exact h j hj
theorem few_len {ss : List ByteArray} (h : few ss = true) : ss.length ≤ 20 := by
  simp only [few, Bool.and_eq_true, decide_eq_true_eq] at h; exact h.1
theorem few_size {ss : List ByteArray} (h : few ss = true) : ∀ s ∈ ss, s.size ≤ 60 := by
  have hl := few_len h
  simp only [few, Bool.and_eq_true, decide_eq_true_eq, List.all_eq_true] at h
  intro s hs
  exact h.2 s (by rw [List.take_of_length_le (by omega)]; exact hs)

end Go.Proofs.YtbdedjokahopmaaDoor

/-
  The document's Split and parts of layer 7, by their contracts.
-/
namespace Go.Proofs.YtbdedjokahopmaaDoor
open Go.RowKit

/-- A text of bytes. -/
def btx (l : List UInt8) : ByteArray := ⟨l.toArray⟩
theorem btx_toList (l : List UInt8) : (btx l).data.toList = l := rfl
theorem btx_of (s : ByteArray) : btx s.data.toList = s := rfl
theorem btx_size (l : List UInt8) : (btx l).size = l.length := by show l.toArray.size = _; simp
/-- A slice of texts that the call made. -/
def MadeS (B : Nat) (w : World) (v : Value) (ps : List (List UInt8)) : Prop := w.ownsRow B 9 1 v ps.length (ps.map fun p => Value.string (btx p))
theorem Tryd.infoS : (Tryd.prog.info? 9).map (fun i => (i.zero, i.size, i.bytes)) = some (some (.string ⟨#[]⟩), 1, 16) := by kernel_rfl
theorem MadeS.strs {B : Nat} {w : World} {v : Value} {ps : List (List UInt8)} (h : MadeS B w v ps) : ∃ A c, v = .slice A ps.length c ∧ ps.length ≤ c ∧ Strs w A (ps.map btx) := by
  have h' : w.ownsRow B 9 1 v ps.length (ps.map fun p => Value.string (btx p)) := h
  rcases h.2 with ⟨rfl, h0⟩ | ⟨g, cap, cur, rfl, hh⟩
  · obtain rfl := List.eq_nil_of_length_eq_zero h0
    exact ⟨none, 0, rfl, Nat.le_refl _, fun i s hs => by simp at hs⟩
  · refine ⟨_, _, rfl, hh.2.2.1, fun i s hs => ?_⟩
    have hi : i < ps.length := by have := (List.getElem?_eq_some_iff.1 hs).1; simpa using this
    have hc := h'.cellAt (g := g) i (by simpa using hi)
    refine ⟨g, 0, rfl, (Array.getElem?_eq_some_iff.1 hh.2.1).1, ?_⟩
    rw [Nat.zero_add, hc, List.getElem?_map]
    rw [List.getElem?_map] at hs
    obtain ⟨p, hp, rfl⟩ := Option.map_eq_some_iff.1 hs
    rw [hp]; rfl
theorem MadeS.below {B : Nat} {w w' : World} {v : Value} {ps : List (List UInt8)} (h : MadeS B w v ps) (hb : Below w.heap.size w w') : MadeS B w' v ps := own_below h hb
theorem drop_seg {l : List UInt8} {f k : Nat} (hf : f ≤ k) : l.drop f = (l.drop f).take (k - f) ++ l.drop k := by
  conv => lhs; rw [← List.take_append_drop (k - f) (l.drop f)]
  rw [List.drop_drop]
  congr 2
  omega
theorem extract_btx (s : ByteArray) (f k : Nat) : s.extract f k = btx ((s.data.toList.drop f).take (k - f)) := by
  apply ByteArray.ext
  show (s.extract f k).data = _
  rw [ByteArray.data_extract]
  apply Array.toList_inj.1
  show _ = (s.data.toList.drop f).take (k - f)
  rw [Array.toList_extract]

theorem cut7_here {c : UInt8} {l : List UInt8} {f k : Nat} (hf : f ≤ k) (hk : k < l.length) (hc : l[k] = c) (hno : ∀ b ∈ (l.drop f).take (k - f), b ≠ c) : cut7 c (l.drop f) = (l.drop f).take (k - f) :: cut7 c (l.drop (k + 1)) := by
  have h := drop_seg (l := l) hf
  rw [List.drop_eq_getElem_cons hk, hc] at h
  conv => lhs; rw [h]
  rw [cut7_seg hno]
/-- 'append(v, t)' of one text, v a slice of texts of the call's own. -/
theorem append_text {ops : Array Oper} {rest : List Oper} {o : Oper} {a : Act} {Q : Exit → Act → World → Prop} {w0 : World} (hgd : o.guard = none) (s x : Operand)
    (ho : o.op = .call { callee := .builtin .append, args := #[s, x], argTypes := #[37, 37] })
    (B : Nat) (v : Value) (ps : List (List UInt8)) (p : List UInt8) (t : ByteArray) (ht : t = btx p) (hs : a.eval s = v) (hx : a.eval x = .slice (some ⟨w0.heap.size, 0, none⟩) 1 1) (h1 : MadeS B w0 v ps)
    (hl : ps.length ≤ 20000) (hB : B ≤ w0.heap.size)
    (h : ∀ v' w', MadeS B w' v' (ps ++ [p]) → Below B w0 w' → wpList Tryd.prog ops Q rest (a.put o.dst v') w') : wpList Tryd.prog ops Q (o :: rest) a (w0.alloc (.cells #[.string t] 9)) := by
  obtain ⟨i0, hi, hz0, hz1, hz2⟩ := info_parts Tryd.infoS
  refine wpList_append_own _ hgd s x _ ho B 9 i0 _ 1 16 Tryd.underlying37 hi hz0 hz1 hz2 rfl (by decide) v _ _ hs (h1.alloc _) ⟨w0.heap.size, 0, none⟩ 1 1 [.string t] hx rfl (cell_one_new _ _ _) (by simp [Value.oneCell']) (by simp only [maxLen]; omega) (by omega) (by simp; omega) (fun v' w' hown hg _ => h v' w' ?_ ?_)
  · show w'.ownsRow B 9 1 v' _ _
    subst ht
    rw [List.length_append, List.map_append]; exact hown
  · exact ((Below.refl B w0).alloc hB _).grown hg (by simp; omega) (own_ge (show w0.ownsRow B 9 1 v _ _ from h1))

def SplitPost (ps : List (List UInt8)) (w : World) (e : Ending) (w' : World) : Prop := ∃ v, e = .returned v ∧ MadeS w.heap.size w' v ps ∧ Below w.heap.size w w'

set_option maxHeartbeats 2000000 in
set_option maxRecDepth 100000 in
theorem split7_any (s : ByteArray) (c : UInt8) (w : World) (hs : s.size ≤ 10000) :
    Calls Tryd.prog 37 #[.string s, .int .u8 (c.toNat : Int)] w (SplitPost (cut7 c s.data.toList) w) := by
  have HSl : Hid (s.data.toList.length = s.size) := by show s.data.toList.length = s.size; simp
  go_enter Tryd.func37, Tryd.ntmps37
  go_wp2
  go_loopw [5, 6, 7] (fun v5 v6 v7 wr => ∃ (k f : Nat) (out : List (List UInt8)), f ≤ k ∧ k ≤ s.size + 1 ∧ v7 = .int .i64 k ∧ v6 = .int .i64 f ∧ MadeS w.heap.size wr v5 out ∧ Below w.heap.size w wr ∧ out.length ≤ k ∧
    ((k ≤ s.size ∧ cut7 c s.data.toList = out ++ cut7 c (s.data.toList.drop f) ∧ ∀ b ∈ (s.data.toList.drop f).take (k - f), b ≠ c) ∨ (k = s.size + 1 ∧ cut7 c s.data.toList = out))) (fun _ _ v7 _ => s.size + 1 - (intOf v7).toNat)
  case atStart => exact ⟨0, 0, [], Nat.le_refl _, by omega, rfl, rfl, World.ownsRow_nil _ _ _ _, Below.refl _ _, Nat.le_refl _, .inl ⟨by omega, rfl, by simp⟩⟩
  case round =>
    obtain ⟨k, f, out, hf, hk, rfl, rfl, hm, hb, ho, hcase⟩ := hrel
    have HM := Lib.hid (And.intro hm hb)
    have hsz := hb.size
    clear hm hb
    rcases hcase with ⟨hks, hcut, hno⟩ | ⟨hks, hcut⟩
    · have HC := Lib.hid (And.intro hcut hno)
      have HX := Lib.hid (extract_btx s f k)
      clear hcut hno
      by_cases hlt : k < s.size
      · have hlen : k < s.data.toList.length := by rw [HSl.out]; exact hlt
        have hge : s.data.toList[k] = s[k]'hlt := by simp; rfl
        have hki : ((k : Int) == (s.size : Int)) = false := beq_eq_false_iff_ne.2 (by omega)
        by_cases hc : s[k]'hlt = c
        · have HE : Hid (cut7 c s.data.toList = (out ++ [(s.data.toList.drop f).take (k - f)]) ++ cut7 c (s.data.toList.drop (k + 1))) := by
            show cut7 c s.data.toList = (out ++ [(s.data.toList.drop f).take (k - f)]) ++ cut7 c (s.data.toList.drop (k + 1))
            rw [HC.out.1, cut7_here hf hlen (hge.trans hc) HC.out.2]
            simp
          have hc0 : (((s[k]'hlt).toNat : Int) == (c.toNat : Int)) = true := by rw [hc]; simp
          clear hlen hge hc HC
          go_wp2_with (at_builtin
                       refine append_text rfl (.tmp 25) (.tmp 30) rfl w.heap.size _ out ((s.data.toList.drop f).take (k - f)) _ HX.out rfl rfl HM.out.1 (by omega) hsz ?_
                       intro v1 w1 hm1 hb1
                       have HM1 := Lib.hid (And.intro hm1 (HM.out.2.trans hb1))
                       clear hm1 hb1)
          go_roundw
          case rel => exact ⟨k + 1, k + 1, _, Nat.le_refl _, by omega, by go_num, by go_num, HM1.out.1, HM1.out.2, by simp; omega, .inl ⟨by omega, HE.out, by simp⟩⟩
          case measure => simp [intOf]; omega
        · have HN : Hid (∀ b ∈ (s.data.toList.drop f).take (k + 1 - f), b ≠ c) := by
            intro b hb
            rw [take_sub hlen hf, hge] at hb
            rcases List.mem_append.1 hb with hb | hb
            · exact HC.out.2 b hb
            · rw [List.mem_singleton] at hb; subst hb; exact hc
          have hc0 : (((s[k]'hlt).toNat : Int) == (c.toNat : Int)) = false := beq_eq_false_iff_ne.2 (fun e => hc (UInt8.toNat_inj.1 (by omega)))
          clear hlen hge hc
          go_wp2
          go_roundw
          case rel => exact ⟨k + 1, f, out, by omega, by omega, by go_num, rfl, HM.out.1, HM.out.2, by omega, .inl ⟨by omega, HC.out.1, HN.out⟩⟩
          case measure => simp [intOf]; omega
      · obtain rfl : k = s.size := by omega
        have HE : Hid (cut7 c s.data.toList = out ++ [(s.data.toList.drop f).take (s.size - f)]) := by
          show cut7 c s.data.toList = out ++ [(s.data.toList.drop f).take (s.size - f)]
          have h2 := HC.out.2
          have ht : (s.data.toList.drop f).take (s.size - f) = s.data.toList.drop f := List.take_of_length_le (by rw [List.length_drop, HSl.out]; omega)
          rw [ht] at h2 ⊢
          rw [HC.out.1, cut7_end h2]
        clear HC hlt hk hks
        go_wp2_with (at_builtin
                     refine append_text rfl (.tmp 25) (.tmp 30) rfl w.heap.size _ out ((s.data.toList.drop f).take (s.size - f)) _ HX.out rfl rfl HM.out.1 (by omega) hsz ?_
                     intro v1 w1 hm1 hb1
                     have HM1 := Lib.hid (And.intro hm1 (HM.out.2.trans hb1))
                     clear hm1 hb1)
        go_roundw
        case rel => exact ⟨s.size + 1, s.size + 1, _, Nat.le_refl _, by omega, by go_num, by go_num, HM1.out.1, HM1.out.2, by simp; omega, .inr ⟨rfl, HE.out⟩⟩
        case measure => simp [intOf]
    · have HE := Lib.hid hcut
      clear hcut
      go_wp2
      go_ret
      exact ⟨_, rfl, by rw [HE.out]; exact HM.out.1, HM.out.2⟩

theorem btx_tl (x : List UInt8) : (btx x).toList = x := by rw [ByteArray.toList_eq]; rfl
theorem btx_empty : (btx []).toList.isEmpty = true := by rw [btx_tl]; rfl
theorem btx_full {x : List UInt8} (h : x ≠ []) : (btx x).toList.isEmpty = false := by
  rw [btx_tl]
  cases x with
  | nil => exact absurd rfl h
  | cons a l => rfl
theorem strs_at {w : World} {A : Option Addr} {ps : List (List UInt8)} (h : Strs w A (ps.map btx)) {i : Nat} {p : List UInt8} (hp : ps[i]? = some p) : ∃ b off, A = some ⟨b, off, none⟩ ∧ b < w.heap.size ∧ w.cell? ⟨b, off + i, none⟩ = some (.string (btx p)) :=
  h i (btx p) (by rw [List.getElem?_map, hp]; rfl)
def PartsPost (ps : List (List UInt8)) (w : World) (e : Ending) (w' : World) : Prop := ∃ A c, e = .returned (.slice A ps.length c) ∧ ps.length ≤ c ∧ Strs w' A (ps.map btx) ∧ Below w.heap.size w w'
theorem Strs.take7 {w : World} {A : Option Addr} {ss : List ByteArray} (h : Strs w A ss) (k : Nat) : Strs w A (ss.take k) := by
  intro i c hc
  refine h i c ?_
  rw [List.getElem?_take] at hc
  split at hc
  · exact hc
  · cases hc

set_option maxHeartbeats 2000000 in
set_option maxRecDepth 100000 in
theorem parts7_any (s : ByteArray) (w : World) (hs : s.size ≤ 10000) :
    Calls Tryd.prog 22 #[.string s] w (PartsPost (parts7 s.data.toList) w) := by
  have HSp := Lib.hid (split7_any s 46 w hs)
  have hln := cut7_length 46 s.data.toList
  have hsl : s.data.toList.length = s.size := by simp
  rw [hsl] at hln
  have hne := cut7_ne 46 s.data.toList
  unfold parts7
  obtain ⟨l, hl⟩ : ∃ l, cut7 46 s.data.toList = l := ⟨_, rfl⟩
  rw [hl] at HSp hln hne ⊢
  clear hl hsl
  rcases List.eq_nil_or_concat l with rfl | ⟨t, x, rfl⟩
  · exact absurd rfl hne
  · rw [List.concat_eq_append] at HSp hln ⊢
    have htl : t.length ≤ 10000 := by simp at hln; omega
    clear hne hln
    by_cases ht : 0 < t.length
    · by_cases hx : x = []
      · have HT : Hid (trim7 (t ++ [x]) = t) := by
          show trim7 (t ++ [x]) = t
          unfold trim7
          rw [if_pos ⟨by simp; omega, by simp [hx]⟩]
          simp
        rw [HT.out]
        have hq : (btx x).toList.isEmpty = true := by rw [hx]; exact btx_empty
        clear hx
        go_enter Tryd.func22, Tryd.ntmps22
        go_wp2_with (go_at_call 37; refine (HSp.out).mono ?_
                     rintro e w1 ⟨v, rfl, hm, hb⟩
                     obtain ⟨A, c, hv, hcap, hstr⟩ := hm.strs
                     rw [show (t ++ [x]).length = t.length + 1 by simp] at hv hcap
                     subst hv
                     obtain ⟨b, off, rfl, hblt, hc⟩ := strs_at hstr (i := t.length) (p := x) (by simp)
                     have HS := Lib.hid (And.intro hstr hb)
                     clear hm hstr hb)
        go_ret
        exact ⟨_, _, rfl, by omega, by have := HS.out.1.take7 t.length; simpa using this, HS.out.2⟩
      · have HT : Hid (trim7 (t ++ [x]) = t ++ [x]) := by
          show trim7 (t ++ [x]) = t ++ [x]
          unfold trim7
          rw [if_neg]
          intro e
          have := e.2
          simp at this
          exact hx this
        rw [HT.out]
        have hq := btx_full hx
        clear hx
        go_enter Tryd.func22, Tryd.ntmps22
        go_wp2_with (go_at_call 37; refine (HSp.out).mono ?_
                     rintro e w1 ⟨v, rfl, hm, hb⟩
                     obtain ⟨A, c, hv, hcap, hstr⟩ := hm.strs
                     rw [show (t ++ [x]).length = t.length + 1 by simp] at hv hcap
                     subst hv
                     obtain ⟨b, off, rfl, hblt, hc⟩ := strs_at hstr (i := t.length) (p := x) (by simp)
                     have HS := Lib.hid (And.intro hstr hb)
                     clear hm hstr hb)
        go_ret
        exact ⟨_, _, by simp; rfl, by simp; omega, HS.out.1, HS.out.2⟩
    · have HT : Hid (trim7 (t ++ [x]) = t ++ [x]) := by
        show trim7 (t ++ [x]) = t ++ [x]
        unfold trim7
        rw [if_neg]
        intro e
        have := e.1
        simp at this
        omega
      rw [HT.out]
      obtain rfl : t = [] := List.eq_nil_of_length_eq_zero (by omega)
      rw [List.nil_append] at HSp ⊢
      go_enter Tryd.func22, Tryd.ntmps22
      go_wp2_with (go_at_call 37; refine (HSp.out).mono ?_
                   rintro e w1 ⟨v, rfl, hm, hb⟩
                   obtain ⟨A, c, hv, hcap, hstr⟩ := hm.strs
                   rw [List.length_singleton] at hv hcap
                   subst hv
                   have HS := Lib.hid (And.intro hstr hb)
                   clear hm hstr hb)
      go_ret
      exact ⟨_, _, rfl, hcap, HS.out.1, HS.out.2⟩
end Go.Proofs.YtbdedjokahopmaaDoor

/-
  The document's Ends of layer 7, by its contract.
-/
namespace Go.Proofs.YtbdedjokahopmaaDoor
open Go.RowKit

def BoolPost (b : Bool) (w : World) (e : Ending) (w' : World) : Prop := e = .returned (.bool b) ∧ Below w.heap.size w w'
theorem number7_is {x : List UInt8} {n : Int} (h : numI x = n) (w : World) (hs : x.length ≤ 10000) :
    Calls Tryd.prog 23 #[.string (btx x)] w fun e w' => e = .returned (.int .i64 n) ∧ w = w' := by
  have := number7_any (btx x) w (by rw [btx_size]; exact hs)
  rw [btx_toList, h] at this
  exact this
theorem numI_pos {x : List UInt8} : 0 ≤ numI x ↔ (num7 x).isSome = true := by
  unfold numI
  cases num7 x with
  | none => simp
  | some n => simp
theorem endsP_last (s : List UInt8) {t : List (List UInt8)} {x : List UInt8} (h : parts7 s = t ++ [x]) : ends7 s = endsP x := by
  unfold ends7
  congr 1
  have : ∀ (l : List (List UInt8)) (hl : l ≠ []) , l = t ++ [x] → l.getLast hl = x := by
    rintro l hl rfl
    simp
  exact this _ _ h

set_option maxHeartbeats 2000000 in
set_option maxRecDepth 100000 in
theorem ends7_any (s : ByteArray) (w : World) (hs : s.size ≤ 10000) :
    Calls Tryd.prog 13 #[.string s] w (BoolPost (ends7 s.data.toList) w) := by
  have HP := Lib.hid (parts7_any s w hs)
  have hsl : s.data.toList.length = s.size := by simp
  have hpl := parts7_length s.data.toList
  have hne := parts7_ne s.data.toList
  have hmem := fun p => parts7_mem (s := s.data.toList) (p := p)
  have hend := fun t x => endsP_last s.data.toList (t := t) (x := x)
  obtain ⟨l, hl⟩ : ∃ l, parts7 s.data.toList = l := ⟨_, rfl⟩
  rw [hl] at HP hpl hne hmem hend
  rcases List.eq_nil_or_concat l with rfl | ⟨t, x, rfl⟩
  · exact absurd rfl hne
  · rw [List.concat_eq_append] at HP hpl hmem hend
    rw [hend t x rfl]
    have hxl : x.length ≤ 10000 := by have := hmem x (by simp); omega
    have htl : t.length ≤ 10000 := by simp at hpl; omega
    clear hpl hmem hend hne hl hsl
    obtain ⟨y, hy⟩ : ∃ y, btx x = y := ⟨_, rfl⟩
    have hys : y.size = x.length := by rw [← hy, btx_size]
    have hyl : y.size ≤ 10000 := by omega
    have HY := Lib.hid hy
    have HYs := Lib.hid hys
    have hdl : y.data.toList = x := by rw [← hy]; rfl
    have HDl := Lib.hid hdl
    clear hys hdl
    obtain ⟨B, hB⟩ : ∃ B : Bool, (decide (0 < x.length) && x.all isFig) = B := ⟨_, rfl⟩
    have HB := Lib.hid hB
    clear hB
    go_enter Tryd.func13, Tryd.ntmps13
    go_wp2_with (go_at_call 22; refine (HP.out).mono ?_
                 rintro e w1 ⟨A, c, rfl, hcap, hstr, hb⟩
                 rw [show (t ++ [x]).length = t.length + 1 by simp]
                 obtain ⟨b, off, rfl, hblt, hc⟩ := strs_at hstr (i := t.length) (p := x) (by simp)
                 rw [hy] at hc
                 have HS := Lib.hid hb
                 clear hstr hb hcap)
    go_loopw [5, 6] (fun v5 i wr => ∃ k : Nat, k ≤ y.size ∧ i = .int .i64 k ∧ wr = w1 ∧ v5 = .bool (decide (0 < x.length) && (x.take k).all isFig)) (fun _ i _ => y.size - (intOf i).toNat)
    case atStart => exact ⟨0, by omega, rfl, rfl, by rw [HYs.out]; simp⟩
    case round =>
      obtain ⟨k, hk, rfl, hw, rfl⟩ := hrel
      have hw' := hw.symm
      subst hw'
      clear hw
      by_cases hlt : k < y.size
      · have hlx : k < x.length := by rw [← HYs.out]; exact hlt
        have hge : x[k] = y[k]'hlt := by
          have h1 : x[k]? = some x[k] := List.getElem?_eq_getElem hlx
          have h2 : y.data.toList[k]? = some (y[k]'hlt) := by rw [Array.getElem?_toList]; exact Array.getElem?_eq_getElem _
          rw [HDl.out, h1] at h2
          exact Option.some.inj h2
        have hst : (decide (0 < x.length) && (x.take (k + 1)).all isFig) = ((decide (0 < x.length) && (x.take k).all isFig) && isFig (y[k]'hlt)) := by
          rw [List.take_succ_eq_append_getElem hlx, List.all_append, hge]
          simp [Bool.and_assoc]
        obtain ⟨q, hq⟩ : ∃ q : Bool, (decide (0 < x.length) && (x.take k).all isFig) = q := ⟨_, rfl⟩
        rw [hq] at hst ⊢
        have HSt := Lib.hid hst
        clear hst hq hge hlx
        cases q with
        | true =>
          by_cases h48 : 48 ≤ (y[k]'hlt).toNat
          · by_cases h57 : (y[k]'hlt).toNat ≤ 57
            · have HF : Hid (isFig (y[k]'hlt) = true) := by show isFig (y[k]'hlt) = true; simp [isFig, h48, h57]
              go_wp2
              all_goals
                go_roundw
                case rel => exact ⟨k + 1, by omega, by go_num, by first | rfl | trivial, by rw [HSt.out, HF.out]; first | rfl | (congr 1; simp; omega)⟩
                case measure => simp [intOf]; omega
            · have HF : Hid (isFig (y[k]'hlt) = false) := by show isFig (y[k]'hlt) = false; simp [isFig]; omega
              go_wp2
              all_goals
                go_roundw
                case rel => exact ⟨k + 1, by omega, by go_num, by first | rfl | trivial, by rw [HSt.out, HF.out]; first | rfl | (congr 1; simp; omega)⟩
                case measure => simp [intOf]; omega
          · have HF : Hid (isFig (y[k]'hlt) = false) := by show isFig (y[k]'hlt) = false; simp [isFig]; omega
            go_wp2
            all_goals
              go_roundw
              case rel => exact ⟨k + 1, by omega, by go_num, by first | rfl | trivial, by rw [HSt.out, HF.out]; first | rfl | (congr 1; simp; omega)⟩
              case measure => simp [intOf]; omega
        | false =>
          go_wp2
          all_goals
            go_roundw
            case rel => exact ⟨k + 1, by omega, by go_num, by first | rfl | trivial, by rw [HSt.out]; rfl⟩
            case measure => simp [intOf]; omega
      · rw [List.take_of_length_le (by rw [← HYs.out]; omega), HB.out]
        cases B with
        | true =>
          have HE : Hid (endsP x = true) := by show endsP x = true; unfold endsP; rw [HB.out]; rfl
          go_wp2
          go_ret
          exact ⟨by rw [HE.out]; rfl, HS.out⟩
        | false =>
          obtain ⟨n, hn⟩ : ∃ n, numI x = n := ⟨_, rfl⟩
          have HN := Lib.hid hn
          have HE : Hid (endsP x = decide (0 ≤ n)) := by
            show endsP x = decide (0 ≤ n)
            unfold endsP
            rw [HB.out, Bool.false_or, ← hn]
            rw [eq_comm, Bool.eq_iff_iff]
            simp [numI_pos]
          clear hn
          go_wp2_with (go_at_call 23; (try rw [← HY.out]); refine (number7_is HN.out _ hxl).mono ?_; rintro e w' ⟨rfl, rfl⟩)
          go_ret
          exact ⟨by rw [HE.out]; rfl, HS.out⟩
end Go.Proofs.YtbdedjokahopmaaDoor

/-
  The document's Parse of layer 7, by its contract.
-/
namespace Go.Proofs.YtbdedjokahopmaaDoor
open Go.RowKit

theorem numI_some {x : List UInt8} {n : Nat} (h : num7 x = some n) : numI x = (cap7 n : Nat) := by unfold numI; rw [h]
theorem numI_none {x : List UInt8} (h : num7 x = none) : numI x = -1 := by unfold numI; rw [h]
theorem nums7_none {ps : List (List UInt8)} {k : Nat} {x : List UInt8} (h : ps[k]? = some x) (hx : num7 x = none) : nums7 ps = none := by
  induction ps generalizing k with
  | nil => simp at h
  | cons p ps ih =>
    unfold nums7
    cases k with
    | zero =>
      simp at h
      subst h
      rw [hx]
    | succ k =>
      rw [ih (k := k) (by simpa using h)]
      cases num7 p <;> rfl
theorem nums7_all {ps : List (List UInt8)} (h : ∀ p ∈ ps, num7 p ≠ none) : ∃ ns, nums7 ps = some ns := by
  induction ps with
  | nil => exact ⟨[], rfl⟩
  | cons p ps ih =>
    obtain ⟨ns, hn⟩ := ih (fun q hq => h q (List.mem_cons_of_mem _ hq))
    cases hp : num7 p with
    | none => exact absurd hp (h p (List.mem_cons_self ..))
    | some n => exact ⟨n :: ns, by unfold nums7; rw [hp, hn]⟩
theorem nums7_at {ps : List (List UInt8)} {ns : List Nat} (h : nums7 ps = some ns) {k : Nat} {x : List UInt8} (hx : ps[k]? = some x) : ∃ n, ns[k]? = some n ∧ num7 x = some n := by
  induction ps generalizing ns k with
  | nil => simp at hx
  | cons p ps ih =>
    unfold nums7 at h
    split at h
    · rename_i n ms hp hm
      cases h
      cases k with
      | zero => simp at hx; subst hx; exact ⟨n, rfl, hp⟩
      | succ k =>
        obtain ⟨m, h1, h2⟩ := ih hm (k := k) (by simpa using hx)
        exact ⟨m, by simpa using h1, h2⟩
    · cases h
theorem put7_more {a w n : Nat} {ns : List Nat} (h : ns ≠ []) : put7 a w (n :: ns) = if n ≤ 255 then put7 (a + n * w) (w / 256) ns else (3, 0) := by
  cases ns with
  | nil => exact absurd rfl h
  | cons m ns => rfl
theorem cap7_small {n m : Nat} (hm : m ≤ 1099511627776) : m ≤ cap7 n ↔ m ≤ n := by unfold cap7; split <;> omega
theorem cap7_lt {n m : Nat} (hm : m ≤ 1099511627776) : cap7 n < m ↔ n < m := by unfold cap7; split <;> omega
theorem cap7_eq {n m : Nat} (hm : m ≤ 1099511627776) (h : n < m) : cap7 n = n := by unfold cap7; rw [if_neg (by omega)]
theorem pow7_step {q k : Nat} (h : q * 256 ^ k = 16777216) (hk : k ≤ 2) : q / 256 * 256 ^ (k + 1) = 16777216 := by
  match k, h, hk with
  | 0, h, _ =>
    have h : q * 1 = 16777216 := h
    obtain rfl : q = 16777216 := by omega
    decide
  | 1, h, _ =>
    have h : q * 256 = 16777216 := h
    obtain rfl : q = 65536 := by omega
    decide
  | 2, h, _ =>
    have h : q * 65536 = 16777216 := h
    obtain rfl : q = 256 := by omega
    decide
theorem pow7_le {q k : Nat} (h : q * 256 ^ k = 16777216) : q ≤ 16777216 := by
  have h1 : 1 ≤ 256 ^ k := Nat.one_le_pow _ _ (by omega)
  have h2 : q * 1 ≤ q * 256 ^ k := Nat.mul_le_mul_left _ h1
  omega
def from7 (o : Option (List Nat)) : Nat × Nat := match o with
  | none => (2, 0)
  | some ns => put7 0 16777216 ns
theorem parse7_eq (s : List UInt8) : parse7 s = if (parts7 s).length ≤ 4 then from7 (nums7 (parts7 s)) else (2, 0) := rfl
def ParsePost (r : Nat × Nat) (w : World) (e : Ending) (w' : World) : Prop := e = .returned (.tuple #[.int .u32 (r.2 : Nat), .int .i64 (r.1 : Nat)]) ∧ Below w.heap.size w w'

set_option maxHeartbeats 4000000 in
set_option maxRecDepth 100000 in
theorem parse7_any (s : ByteArray) (w : World) (hs : s.size ≤ 10000) :
    Calls Tryd.prog 10 #[.string s] w (ParsePost (parse7 s.data.toList) w) := by
  have HP := Lib.hid (parts7_any s w hs)
  have hsl : s.data.toList.length = s.size := by simp
  have hpl := parts7_length s.data.toList
  have hne := parts7_ne s.data.toList
  have hmem := fun p => parts7_mem (s := s.data.toList) (p := p)
  rw [parse7_eq]
  obtain ⟨ps, hl⟩ : ∃ l, parts7 s.data.toList = l := ⟨_, rfl⟩
  rw [hl] at HP hpl hne hmem ⊢
  have hpl2 : ps.length ≤ 10001 := by omega
  have HMm : Hid (∀ p ∈ ps, p.length ≤ 10000) := fun p hp => by have := hmem p hp; omega
  clear hl hpl hmem hsl
  by_cases h4 : ps.length ≤ 4
  · rw [if_pos h4]
    obtain ⟨R, hR⟩ : ∃ R, from7 (nums7 ps) = R := ⟨_, rfl⟩
    rw [hR]
    have HR := Lib.hid hR
    clear hR
    have hpos : 0 < ps.length := by cases ps with
      | nil => exact absurd rfl hne
      | cons p ps => simp
    have HNe := Lib.hid hne
    clear hne hpl2
    go_enter Tryd.func10, Tryd.ntmps10
    go_wp2_with (go_at_call 22; refine (HP.out).mono ?_
                 rintro e w1 ⟨A, c, rfl, hcap, hstr, hb⟩
                 have HSt := Lib.hid hstr
                 have HS := Lib.hid hb
                 clear hstr hb hcap)
    go_loopw [5] (fun i wr => ∃ k : Nat, k ≤ ps.length ∧ i = .int .i64 k ∧ wr = w1 ∧ ∀ p ∈ ps.take k, num7 p ≠ none) (fun i _ => ps.length - (intOf i).toNat)
    case atStart => exact ⟨0, by omega, rfl, rfl, by simp⟩
    case round =>
      obtain ⟨k, hk, rfl, hw, hall⟩ := hrel
      have hw' := hw.symm
      subst hw'
      have HA := Lib.hid hall
      clear hw hall
      by_cases hlt : k < ps.length
      · have hx := List.getElem?_eq_getElem hlt
        have HLx := Lib.hid (HMm.out _ (List.getElem_mem hlt))
        have HTk := Lib.hid (List.take_succ_eq_append_getElem hlt)
        obtain ⟨x, hxx⟩ : ∃ x, ps[k] = x := ⟨_, rfl⟩
        rw [hxx] at hx HLx HTk
        obtain ⟨b, off, rfl, hblt, hc⟩ := strs_at HSt.out hx
        cases hn : num7 x with
        | none =>
          have HN : Hid (R = (2, 0)) := by show R = (2, 0); rw [← HR.out, nums7_none hx hn]; rfl
          have HI := Lib.hid (numI_none hn)
          clear hx hxx hn
          go_wp2_with (go_at_call 23; refine (number7_is HI.out _ HLx.out).mono ?_; rintro e w' ⟨rfl, rfl⟩)
          go_ret2
          rw [HN.out]
          exact ⟨rfl, HS.out⟩
        | some n =>
          have HI := Lib.hid (numI_some hn)
          have HNx : Hid (num7 x ≠ none) := by show num7 x ≠ none; rw [hn]; simp
          clear hx hxx hn
          go_wp2_with (go_at_call 23; refine (number7_is HI.out _ HLx.out).mono ?_; rintro e w' ⟨rfl, rfl⟩)
          go_roundw
          case rel =>
            refine ⟨k + 1, by omega, by go_num, by first | rfl | trivial, fun p hp => ?_⟩
            rw [HTk.out] at hp
            rcases List.mem_append.1 hp with hp | hp
            · exact HA.out p hp
            · rw [List.mem_singleton] at hp; subst hp; exact HNx.out
          case measure => simp [intOf]; omega
      · have hall := HA.out
        rw [List.take_of_length_le (by omega)] at hall
        obtain ⟨ns, hns⟩ := nums7_all hall
        have hnl := nums7_length hns
        have HNs := Lib.hid hns
        have HPr : Hid (R = put7 0 16777216 ns) := by show R = put7 0 16777216 ns; rw [← HR.out, hns]; rfl
        have HNl := Lib.hid hnl
        clear hall hns hnl HA
        go_wp2
        go_loopw [6, 7, 8] (fun v6 v7 v8 wr => ∃ k a q : Nat, k + 1 ≤ ps.length ∧ v6 = .int .i64 a ∧ v7 = .int .i64 q ∧ v8 = .int .i64 k ∧ wr = w1 ∧ R = put7 a q (ns.drop k) ∧ a + 256 * q ≤ 4294967296 ∧ q * 256 ^ k = 16777216) (fun _ _ v8 _ => ps.length - (intOf v8).toNat)
        case atStart => exact ⟨0, 0, 16777216, by omega, rfl, rfl, rfl, rfl, HPr.out, by omega, rfl⟩
        case round =>
          obtain ⟨k, a, q, hk, rfl, rfl, rfl, hw, hput, haq, hqk⟩ := hrel
          have hw' := hw.symm
          subst hw'
          have HPu := Lib.hid hput
          have hqle := pow7_le hqk
          clear hw hput
          have hlt : k < ps.length := by omega
          have hx := List.getElem?_eq_getElem hlt
          have HLx := Lib.hid (HMm.out _ (List.getElem_mem hlt))
          obtain ⟨x, hxx⟩ : ∃ x, ps[k] = x := ⟨_, rfl⟩
          rw [hxx] at hx HLx
          obtain ⟨b, off, rfl, hblt, hc⟩ := strs_at HSt.out hx
          obtain ⟨n, hn1, hn2⟩ := nums7_at HNs.out hx
          have HI := Lib.hid (numI_some hn2)
          have hdr : ns.drop k = n :: ns.drop (k + 1) := by
            obtain ⟨h1, h2⟩ := List.getElem?_eq_some_iff.1 hn1
            rw [List.drop_eq_getElem_cons h1, h2]
          have HDr := Lib.hid hdr
          clear hx hxx hn1 hn2 hdr hlt
          have hk3 : k ≤ 3 := by omega
          by_cases hmore : k + 1 < ps.length
          · have HNe2 : Hid (ns.drop (k + 1) ≠ []) := by
              intro e
              have := congrArg List.length e
              rw [List.length_drop, HNl.out] at this
              simp at this
              omega
            by_cases hn : n ≤ 255
            · have hcn := cap7_eq (n := n) (m := 256) (by omega) (by omega)
              rw [hcn] at HI
              obtain ⟨P, hP⟩ : ∃ P, n * q = P := ⟨_, rfl⟩
              obtain ⟨q2, hq2⟩ : ∃ q2, q / 256 = q2 := ⟨_, rfl⟩
              have HPu2 : Hid (R = put7 (a + P) q2 (ns.drop (k + 1))) := by
                show R = put7 (a + P) q2 (ns.drop (k + 1))
                rw [HPu.out, HDr.out, put7_more HNe2.out, if_pos hn, hP, hq2]
              have hPl : P ≤ 255 * q := by rw [← hP]; exact Nat.mul_le_mul_right _ hn
              have hqq : q2 * 256 ^ (k + 1) = 16777216 := by rw [← hq2]; exact pow7_step hqk (by omega)
              have HQ := Lib.hid hqq
              have hPi : (n : Int) * (q : Int) = (P : Int) := by rw [← hP]; simp
              have hqi : (q : Int) / 256 = (q2 : Int) := by omega
              have haP : a + P + 256 * q2 ≤ 4294967296 := by omega
              have HAp := Lib.hid haP
              have haP2 : a + P ≤ 4294967296 := by omega
              clear hcn hP hq2 hqq hqk haP
              go_wp2_with (go_at_call 23; refine (number7_is HI.out _ HLx.out).mono ?_; rintro e w' ⟨rfl, rfl⟩)
              go_roundw
              case rel => exact ⟨k + 1, a + P, q2, by omega, by go_num, rfl, by go_num, by first | rfl | trivial, HPu2.out, HAp.out, HQ.out⟩
              case measure => simp [intOf]; omega
            · have HPu2 : Hid (R = (3, 0)) := by
                show R = (3, 0)
                rw [HPu.out, HDr.out, put7_more HNe2.out, if_neg hn]
              have hcn := (cap7_small (n := n) (m := 256) (by omega)).2 (by omega)
              have hcm := cap7_le n
              obtain ⟨m, hm⟩ : ∃ m, cap7 n = m := ⟨_, rfl⟩
              rw [hm] at HI hcn hcm
              clear hm hqk
              go_wp2_with (go_at_call 23; refine (number7_is HI.out _ HLx.out).mono ?_; rintro e w' ⟨rfl, rfl⟩)
              go_ret2
              rw [HPu2.out]
              exact ⟨rfl, HS.out⟩
          · have hke : ps.length - 1 = k := by omega
            rw [← hke] at hc
            have hend : ns.drop (k + 1) = [] := List.drop_eq_nil_of_le (by rw [HNl.out]; omega)
            have HPq : Hid (R = if n < 256 * q then (0, a + n) else (3, 0)) := by
              show R = if n < 256 * q then (0, a + n) else (3, 0)
              rw [HPu.out, HDr.out, hend]; rfl
            clear hke hend hqk
            by_cases hn : n < 256 * q
            · have hcn := cap7_eq (n := n) (m := 256 * q) (by omega) hn
              rw [hcn] at HI
              have HPe : Hid (R = (0, a + n)) := by show R = (0, a + n); rw [HPq.out, if_pos hn]
              have han : a + n < 4294967296 := by omega
              clear hcn
              go_wp2_with (go_at_call 23; refine (number7_is HI.out _ HLx.out).mono ?_; rintro e w' ⟨rfl, rfl⟩)
              go_ret2
              rw [HPe.out]
              exact ⟨rfl, HS.out⟩
            · have hcn := (cap7_small (n := n) (m := 256 * q) (by omega)).2 (by omega)
              have hcm := cap7_le n
              have HPe : Hid (R = (3, 0)) := by show R = (3, 0); rw [HPq.out, if_neg hn]
              obtain ⟨m, hm⟩ : ∃ m, cap7 n = m := ⟨_, rfl⟩
              rw [hm] at HI hcn hcm
              clear hm
              go_wp2_with (go_at_call 23; refine (number7_is HI.out _ HLx.out).mono ?_; rintro e w' ⟨rfl, rfl⟩)
              go_ret2
              rw [HPe.out]
              exact ⟨rfl, HS.out⟩
  · rw [if_neg h4]
    clear hne
    go_enter Tryd.func10, Tryd.ntmps10
    go_wp2_with (go_at_call 22; refine (HP.out).mono ?_
                 rintro e w1 ⟨A, c, rfl, hcap, hstr, hb⟩
                 have HS := Lib.hid hb
                 clear hstr hb hcap)
    go_ret2
    exact ⟨rfl, HS.out⟩
end Go.Proofs.YtbdedjokahopmaaDoor

/-
  The document's Text of layer 7, by its contract.
-/
namespace Go.Proofs.YtbdedjokahopmaaDoor
open Go.RowKit

/-- What is left of a text, of j bytes. -/
def tail7 : Nat → Nat → List UInt8
  | 0, _ => []
  | j + 1, x => (if j < 3 then [46] else []) ++ dec8 (x / 16777216) ++ tail7 j (x % 16777216 * 256)
theorem tail7_zero (x : Nat) : tail7 0 x = [] := rfl
theorem tail7_succ (j x : Nat) : tail7 (j + 1) x = (if j < 3 then [46] else []) ++ dec8 (x / 16777216) ++ tail7 j (x % 16777216 * 256) := rfl
theorem shift7 (x : Nat) : x % 16777216 * 256 % 16777216 = x % 65536 * 256 := by omega
theorem text7_tail (a : Nat) : text7 a = tail7 4 a := by
  obtain ⟨x1, e1⟩ : ∃ x1, a % 16777216 * 256 = x1 := ⟨_, rfl⟩
  have h1 : x1 / 16777216 = a / 65536 % 256 := by omega
  have m1 : x1 % 16777216 = a % 65536 * 256 := by rw [← e1]; exact shift7 a
  obtain ⟨x2, e2⟩ : ∃ x2, x1 % 16777216 * 256 = x2 := ⟨_, rfl⟩
  have h2 : x2 / 16777216 = a / 256 % 256 := by omega
  have m2 : x2 = a % 65536 * 65536 := by omega
  obtain ⟨x3, e3⟩ : ∃ x3, x2 % 16777216 * 256 = x3 := ⟨_, rfl⟩
  have h3 : x3 / 16777216 = a % 256 := by omega
  rw [tail7_succ, e1, tail7_succ, h1, e2, tail7_succ, h2, e3, tail7_succ, h3, tail7_zero]
  simp [text7]
theorem btx_append (a b : List UInt8) : btx (a ++ b) = btx a ++ btx b := by
  apply ByteArray.ext
  rw [ByteArray.data_append]
  apply Array.toList_inj.1
  simp [btx]
theorem conv_one (W : World) (g : Nat) (hg : W.heap.size = g) (c : Int) (b : UInt8) (hc : c = (b.toNat : Int)) :
    (convert 51 9 (.slice (some ⟨g, 0, none⟩) 1 1)).run Tryd.prog (W.alloc (.cells #[.int .u8 c] 5)) = .ok (.string (btx [b])) (W.alloc (.cells #[.int .u8 c] 5)) := by
  subst hg hc
  exact run_convert_bytes_back (W.alloc (.cells #[.int .u8 (b.toNat : Int)] 5)) _ _ _ ⟨W.heap.size, 0, none⟩ 1 [b] Tryd.underlying51 Tryd.underlying5 Tryd.underlying9 (fun j hj => by
    obtain rfl : j = 0 := by simp at hj; omega
    simp [Addr.add])
theorem fig7 {d : Nat} {c : Int} (hd : d < 10) (hc : c = 48 + (d : Int)) : c = ((UInt8.ofNat (48 + d)).toNat : Int) := by
  rw [hc]
  have : (48 + d) % 256 = 48 + d := by omega
  simp [this]
def TextPost7 (s : ByteArray) (w : World) (e : Ending) (w' : World) : Prop := e = .returned (.string s) ∧ Below w.heap.size w w'

set_option maxHeartbeats 4000000 in
set_option maxRecDepth 100000 in
theorem text7_any (a : Nat) (w : World) (ha : a < 4294967296) :
    Calls Tryd.prog 15 #[.int .u32 (a : Int)] w (TextPost7 (btx (text7 a)) w) := by
  go_enter Tryd.func15, Tryd.ntmps15
  go_wp2
  go_loopw [0, 3, 4] (fun v0 v3 v4 wr => ∃ (k x : Nat) (t : List UInt8), k ≤ 4 ∧ v4 = .int .i64 k ∧ v0 = .int .u32 x ∧ v3 = .string (btx t) ∧ x < 4294967296 ∧ text7 a = t ++ tail7 (4 - k) x ∧ t.length ≤ 4 * k ∧ Below w.heap.size w wr) (fun _ _ v4 _ => 4 - (intOf v4).toNat)
  case atStart => exact ⟨0, a, [], by omega, rfl, rfl, rfl, ha, text7_tail a, by simp, Below.refl _ _⟩
  case round =>
    obtain ⟨k, x, t, hk, rfl, rfl, rfl, hx, htx, htl, hb⟩ := hrel
    have HT := Lib.hid (And.intro htx hb)
    have HTl := Lib.hid htl
    clear htx hb
    by_cases hlt : k < 4
    · obtain ⟨n, hn⟩ : ∃ n, x / 16777216 = n := ⟨_, rfl⟩
      obtain ⟨y, hy⟩ : ∃ y, x % 16777216 * 256 = y := ⟨_, rfl⟩
      have hn2 : n < 256 := by omega
      have hy2 : y < 4294967296 := by omega
      have hni : (x : Int) / 16777216 = (n : Int) := by omega
      have hyi : (x : Int) % 16777216 * 256 = (y : Int) := by omega
      have HTt := Lib.hid (show tail7 (4 - k) x = (if 3 - k < 3 then [46] else []) ++ dec8 n ++ tail7 (3 - k) y by
        rw [show 4 - k = (3 - k) + 1 by omega, tail7_succ, hn, hy])
      have HDl := Lib.hid (dec8_len hn2)
      clear hn hy
      obtain ⟨s, hs⟩ : ∃ s, btx t = s := ⟨_, rfl⟩
      have hsz : s.size ≤ 16 := by rw [← hs, btx_size]; omega
      have HSs := Lib.hid hs
      rw [hs]
      clear hs htl
      obtain ⟨f3, hf3⟩ : ∃ f, UInt8.ofNat (48 + n % 10) = f := ⟨_, rfl⟩
      obtain ⟨f2, hf2⟩ : ∃ f, UInt8.ofNat (48 + n / 10 % 10) = f := ⟨_, rfl⟩
      obtain ⟨f1, hf1⟩ : ∃ f, UInt8.ofNat (48 + n / 100) = f := ⟨_, rfl⟩
      have g3 : 48 + (n : Int) % 10 = (f3.toNat : Int) := by rw [← hf3]; exact fig7 (by omega) (by omega)
      have g2 : 48 + (n : Int) / 10 % 10 = (f2.toNat : Int) := by rw [← hf2]; exact fig7 (by omega) (by omega)
      have g1 : 48 + (n : Int) / 100 = (f1.toNat : Int) := by rw [← hf1]; exact fig7 (by omega) (by omega)
      have u1 : (btx [f1]).size = 1 := by rw [btx_size]; rfl
      have u2 : (btx [f2]).size = 1 := by rw [btx_size]; rfl
      have u3 : (btx [f3]).size = 1 := by rw [btx_size]; rfl
      have e1 := f1.toNat_lt
      have e2 := f2.toNat_lt
      have e3 := f3.toNat_lt
      by_cases hk0 : 0 < k
      · by_cases h100 : 100 ≤ n
        · have h10 : 10 ≤ n := by omega
          have hcv1 := conv_one wr wr.heap.size (by simp) (f1.toNat : Int) f1 rfl
          have hcv2 := conv_one (wr.alloc (.cells #[.int .u8 (f1.toNat : Int)] 5)) (wr.heap.size + 1) (by simp) (f2.toNat : Int) f2 rfl
          have hcv3 := conv_one ((wr.alloc (.cells #[.int .u8 (f1.toNat : Int)] 5)).alloc (.cells #[.int .u8 (f2.toNat : Int)] 5)) (wr.heap.size + 2) (by simp) (f3.toNat : Int) f3 rfl
          go_wp2
          go_roundw
          case rel =>
            have hd : dec8 n = [f1] ++ [f2] ++ [f3] := by
              unfold dec8
              rw [if_pos h100, if_pos h10, hf3, hf2, hf1]
            refine ⟨k + 1, y, t ++ ([46] ++ dec8 n), by omega, by go_num, rfl, ?_, hy2, ?_, ?_, (((HT.out.2.alloc (Nat.le_trans HT.out.2.size (by first | exact Nat.le_refl _ | (simp; done) | (simp; omega))) _).alloc (Nat.le_trans HT.out.2.size (by first | exact Nat.le_refl _ | (simp; done) | (simp; omega))) _).alloc (Nat.le_trans HT.out.2.size (by first | exact Nat.le_refl _ | (simp; done) | (simp; omega))) _)⟩
            · rw [hd]; simp only [btx_append, HSs.out, ← ByteArray.append_assoc]; rfl
            · rw [HT.out.1, HTt.out, if_pos (by omega), show 4 - (k + 1) = 3 - k by omega]; simp
            · have := HTl.out; have := HDl.out; simp; omega
          case measure => simp [intOf]; omega
        · by_cases h10 : 10 ≤ n
          · have hcv2 := conv_one wr wr.heap.size (by simp) (f2.toNat : Int) f2 rfl
            have hcv3 := conv_one (wr.alloc (.cells #[.int .u8 (f2.toNat : Int)] 5)) (wr.heap.size + 1) (by simp) (f3.toNat : Int) f3 rfl
            go_wp2
            go_roundw
            case rel =>
              have hd : dec8 n = [f2] ++ [f3] := by
                unfold dec8
                rw [if_neg h100, if_pos h10, hf3, hf2]
                rfl
              refine ⟨k + 1, y, t ++ ([46] ++ dec8 n), by omega, by go_num, rfl, ?_, hy2, ?_, ?_, ((HT.out.2.alloc (Nat.le_trans HT.out.2.size (by first | exact Nat.le_refl _ | (simp; done) | (simp; omega))) _).alloc (Nat.le_trans HT.out.2.size (by first | exact Nat.le_refl _ | (simp; done) | (simp; omega))) _)⟩
              · rw [hd]; simp only [btx_append, HSs.out, ← ByteArray.append_assoc]; rfl
              · rw [HT.out.1, HTt.out, if_pos (by omega), show 4 - (k + 1) = 3 - k by omega]; simp
              · have := HTl.out; have := HDl.out; simp; omega
            case measure => simp [intOf]; omega
          · have hcv3 := conv_one wr wr.heap.size (by simp) (f3.toNat : Int) f3 rfl
            go_wp2
            go_roundw
            case rel =>
              have hd : dec8 n = [f3] := by
                unfold dec8
                rw [if_neg h100, if_neg h10, hf3]
                rfl
              refine ⟨k + 1, y, t ++ ([46] ++ dec8 n), by omega, by go_num, rfl, ?_, hy2, ?_, ?_, (HT.out.2.alloc (Nat.le_trans HT.out.2.size (by first | exact Nat.le_refl _ | (simp; done) | (simp; omega))) _)⟩
              · rw [hd]; simp only [btx_append, HSs.out, ← ByteArray.append_assoc]; rfl
              · rw [HT.out.1, HTt.out, if_pos (by omega), show 4 - (k + 1) = 3 - k by omega]; simp
              · have := HTl.out; have := HDl.out; simp; omega
            case measure => simp [intOf]; omega
      · by_cases h100 : 100 ≤ n
        · have h10 : 10 ≤ n := by omega
          have hcv1 := conv_one wr wr.heap.size (by simp) (f1.toNat : Int) f1 rfl
          have hcv2 := conv_one (wr.alloc (.cells #[.int .u8 (f1.toNat : Int)] 5)) (wr.heap.size + 1) (by simp) (f2.toNat : Int) f2 rfl
          have hcv3 := conv_one ((wr.alloc (.cells #[.int .u8 (f1.toNat : Int)] 5)).alloc (.cells #[.int .u8 (f2.toNat : Int)] 5)) (wr.heap.size + 2) (by simp) (f3.toNat : Int) f3 rfl
          go_wp2
          go_roundw
          case rel =>
            have hd : dec8 n = [f1] ++ [f2] ++ [f3] := by
              unfold dec8
              rw [if_pos h100, if_pos h10, hf3, hf2, hf1]
            refine ⟨k + 1, y, t ++ ([] ++ dec8 n), by omega, by go_num, rfl, ?_, hy2, ?_, ?_, (((HT.out.2.alloc (Nat.le_trans HT.out.2.size (by first | exact Nat.le_refl _ | (simp; done) | (simp; omega))) _).alloc (Nat.le_trans HT.out.2.size (by first | exact Nat.le_refl _ | (simp; done) | (simp; omega))) _).alloc (Nat.le_trans HT.out.2.size (by first | exact Nat.le_refl _ | (simp; done) | (simp; omega))) _)⟩
            · rw [hd]; simp only [btx_append, HSs.out, ← ByteArray.append_assoc]; first | rfl | (rw [show btx [] = ByteArray.empty from rfl]; simp)
            · rw [HT.out.1, HTt.out, if_neg (by omega), show 4 - (k + 1) = 3 - k by omega]; simp
            · have := HTl.out; have := HDl.out; simp; omega
          case measure => simp [intOf]; omega
        · by_cases h10 : 10 ≤ n
          · have hcv2 := conv_one wr wr.heap.size (by simp) (f2.toNat : Int) f2 rfl
            have hcv3 := conv_one (wr.alloc (.cells #[.int .u8 (f2.toNat : Int)] 5)) (wr.heap.size + 1) (by simp) (f3.toNat : Int) f3 rfl
            go_wp2
            go_roundw
            case rel =>
              have hd : dec8 n = [f2] ++ [f3] := by
                unfold dec8
                rw [if_neg h100, if_pos h10, hf3, hf2]
                rfl
              refine ⟨k + 1, y, t ++ ([] ++ dec8 n), by omega, by go_num, rfl, ?_, hy2, ?_, ?_, ((HT.out.2.alloc (Nat.le_trans HT.out.2.size (by first | exact Nat.le_refl _ | (simp; done) | (simp; omega))) _).alloc (Nat.le_trans HT.out.2.size (by first | exact Nat.le_refl _ | (simp; done) | (simp; omega))) _)⟩
              · rw [hd]; simp only [btx_append, HSs.out, ← ByteArray.append_assoc]; first | rfl | (rw [show btx [] = ByteArray.empty from rfl]; simp)
              · rw [HT.out.1, HTt.out, if_neg (by omega), show 4 - (k + 1) = 3 - k by omega]; simp
              · have := HTl.out; have := HDl.out; simp; omega
            case measure => simp [intOf]; omega
          · have hcv3 := conv_one wr wr.heap.size (by simp) (f3.toNat : Int) f3 rfl
            go_wp2
            go_roundw
            case rel =>
              have hd : dec8 n = [f3] := by
                unfold dec8
                rw [if_neg h100, if_neg h10, hf3]
                rfl
              refine ⟨k + 1, y, t ++ ([] ++ dec8 n), by omega, by go_num, rfl, ?_, hy2, ?_, ?_, (HT.out.2.alloc (Nat.le_trans HT.out.2.size (by first | exact Nat.le_refl _ | (simp; done) | (simp; omega))) _)⟩
              · rw [hd]; simp only [btx_append, HSs.out, ← ByteArray.append_assoc]; first | rfl | (rw [show btx [] = ByteArray.empty from rfl]; simp)
              · rw [HT.out.1, HTt.out, if_neg (by omega), show 4 - (k + 1) = 3 - k by omega]; simp
              · have := HTl.out; have := HDl.out; simp; omega
            case measure => simp [intOf]; omega
    · have HE : Hid (text7 a = t) := by
        show text7 a = t
        rw [HT.out.1, show 4 - k = 0 by omega, tail7_zero, List.append_nil]
      go_wp2
      go_ret
      exact ⟨by rw [HE.out]; rfl, HT.out.2⟩
end Go.Proofs.YtbdedjokahopmaaDoor

/-
  The shelf's layings at this dump: strings.SplitN, strconv.Itoa.
-/
namespace Go.Proofs.YtbdedjokahopmaaDoor
open Go.Shelf
def lays147_ren : Go.Shelf.Ren := ⟨fun | 147 => 18 | 221 => 31 | 268 => 43 | 138 => 44 | 143 => 45 | 195 => 53 | 197 => 54 | 218 => 55 | 219 => 56 | 260 => 65 | 217 => 66 | 225 => 67 | 224 => 68 | 267 => 69 | 266 => 75 | 314 => 76 | n => n, fun | 9 => 9 | 3 => 3 | 31 => 37 | 4 => 4 | 0 => 0 | 105 => 95 | 21 => 21 | 5 => 5 | 46 => 108 | 119 => 114 | 139 => 117 | 138 => 116 | 146 => 118 | 51 => 23 | n => n, fun | 1 => 1 | 3 => 3 | 4 => 4 | n => n⟩
theorem lays147 : Go.Proofs.Lays.n147 Tryd.prog lays147_ren := {
  mixed := by kernel_rfl
  f138 := Tryd.func44.trans (congrArg some (by kernel_rfl))
  f143 := Tryd.func45.trans (congrArg some (by kernel_rfl))
  f147 := Tryd.func18.trans (congrArg some (by kernel_rfl))
  f195 := Tryd.func53.trans (congrArg some (by kernel_rfl))
  f197 := Tryd.func54.trans (congrArg some (by kernel_rfl))
  f217 := Tryd.func66.trans (congrArg some (by kernel_rfl))
  f218 := Tryd.func55.trans (congrArg some (by kernel_rfl))
  f219 := Tryd.func56.trans (congrArg some (by kernel_rfl))
  f221 := Tryd.func31.trans (congrArg some (by kernel_rfl))
  f224 := Tryd.func68.trans (congrArg some (by kernel_rfl))
  f225 := Tryd.func67.trans (congrArg some (by kernel_rfl))
  f260 := Tryd.func65.trans (congrArg some (by kernel_rfl))
  f266 := Tryd.func75.trans (congrArg some (by kernel_rfl))
  f267 := Tryd.func69.trans (congrArg some (by kernel_rfl))
  f268 := Tryd.func43.trans (congrArg some (by kernel_rfl))
  f314 := Tryd.func76.trans (congrArg some (by kernel_rfl))
  t0 := Tryd.underlying0
  a0 := Tryd.isAgg0
  z0 := Tryd.sizeOf0
  v0 := Tryd.zeroValue0
  t3 := Tryd.underlying3
  a3 := Tryd.isAgg3
  z3 := Tryd.sizeOf3
  v3 := Tryd.zeroValue3
  t4 := Tryd.underlying4
  a4 := Tryd.isAgg4
  z4 := Tryd.sizeOf4
  v4 := Tryd.zeroValue4
  t5 := Tryd.underlying5
  a5 := Tryd.isAgg5
  z5 := Tryd.sizeOf5
  v5 := Tryd.zeroValue5
  t9 := Tryd.underlying9
  a9 := Tryd.isAgg9
  z9 := Tryd.sizeOf9
  v9 := Tryd.zeroValue9
  t21 := Tryd.underlying21
  a21 := Tryd.isAgg21
  z21 := Tryd.sizeOf21
  v21 := Tryd.zeroValue21
  t31 := Tryd.underlying37
  a31 := Tryd.isAgg37
  z31 := Tryd.sizeOf37
  v31 := Tryd.zeroValue37
  t46 := Tryd.underlying108
  a46 := Tryd.isAgg108
  z46 := Tryd.sizeOf108
  v46 := Tryd.zeroValue108
  t51 := Tryd.underlying23
  a51 := Tryd.isAgg23
  z51 := Tryd.sizeOf23
  v51 := Tryd.zeroValue23
  t105 := Tryd.underlying95
  a105 := Tryd.isAgg95
  z105 := Tryd.sizeOf95
  v105 := Tryd.zeroValue95
  t119 := Tryd.underlying114
  a119 := Tryd.isAgg114
  z119 := Tryd.sizeOf114
  t138 := Tryd.underlying116
  a138 := Tryd.isAgg116
  z138 := Tryd.sizeOf116
  v138 := Tryd.zeroValue116
  t139 := Tryd.underlying117
  a139 := Tryd.isAgg117
  z139 := Tryd.sizeOf117
  v139 := Tryd.zeroValue117
  t146 := Tryd.underlying118
  a146 := Tryd.isAgg118
  z146 := Tryd.sizeOf118
  v146 := Tryd.zeroValue118
  g1 := by kernel_rfl
  g3 := by kernel_rfl
  g4 := by kernel_rfl }
def lays171_ren : Go.Shelf.Ren := ⟨fun | 171 => 28 | 243 => 42 | 246 => 52 | 283 => 61 | 284 => 62 | 285 => 63 | 286 => 64 | 129 => 71 | 317 => 70 | 318 => 72 | 319 => 73 | 320 => 74 | 337 => 77 | 338 => 78 | n => n, fun | 3 => 3 | 9 => 9 | 2 => 2 | 4 => 4 | 171 => 102 | 0 => 0 | 53 => 42 | 37 => 51 | 5 => 5 | 173 => 105 | 212 => 110 | 51 => 23 | 20 => 20 | 213 => 111 | 46 => 108 | 232 => 121 | 233 => 122 | n => n, fun | 17 => 2 | 18 => 5 | 19 => 6 | n => n⟩
theorem lays171 : Go.Proofs.LaysM.n171 Tryd.prog lays171_ren := {
  mixed := by kernel_rfl
  f129 := Tryd.func71.trans (congrArg some (by kernel_rfl))
  f171 := Tryd.func28.trans (congrArg some (by kernel_rfl))
  f243 := Tryd.func42.trans (congrArg some (by kernel_rfl))
  f246 := Tryd.func52.trans (congrArg some (by kernel_rfl))
  f283 := Tryd.func61.trans (congrArg some (by kernel_rfl))
  f284 := Tryd.func62.trans (congrArg some (by kernel_rfl))
  f285 := Tryd.func63.trans (congrArg some (by kernel_rfl))
  f286 := Tryd.func64.trans (congrArg some (by kernel_rfl))
  f317 := Tryd.func70.trans (congrArg some (by kernel_rfl))
  f318 := Tryd.func72.trans (congrArg some (by kernel_rfl))
  f319 := Tryd.func73.trans (congrArg some (by kernel_rfl))
  f320 := Tryd.func74.trans (congrArg some (by kernel_rfl))
  f337 := Tryd.func77.trans (congrArg some (by kernel_rfl))
  f338 := Tryd.func78.trans (congrArg some (by kernel_rfl))
  t0 := Tryd.underlying0
  a0 := Tryd.isAgg0
  z0 := Tryd.sizeOf0
  v0 := Tryd.zeroValue0
  t2 := Tryd.underlying2
  a2 := Tryd.isAgg2
  z2 := Tryd.sizeOf2
  v2 := Tryd.zeroValue2
  t3 := Tryd.underlying3
  a3 := Tryd.isAgg3
  z3 := Tryd.sizeOf3
  v3 := Tryd.zeroValue3
  t4 := Tryd.underlying4
  a4 := Tryd.isAgg4
  z4 := Tryd.sizeOf4
  v4 := Tryd.zeroValue4
  t5 := Tryd.underlying5
  a5 := Tryd.isAgg5
  z5 := Tryd.sizeOf5
  v5 := Tryd.zeroValue5
  t9 := Tryd.underlying9
  a9 := Tryd.isAgg9
  z9 := Tryd.sizeOf9
  v9 := Tryd.zeroValue9
  t20 := Tryd.underlying20
  a20 := Tryd.isAgg20
  z20 := Tryd.sizeOf20
  v20 := Tryd.zeroValue20
  t37 := Tryd.underlying51
  a37 := Tryd.isAgg51
  z37 := Tryd.sizeOf51
  v37 := Tryd.zeroValue51
  t46 := Tryd.underlying108
  a46 := Tryd.isAgg108
  z46 := Tryd.sizeOf108
  v46 := Tryd.zeroValue108
  t51 := Tryd.underlying23
  a51 := Tryd.isAgg23
  z51 := Tryd.sizeOf23
  v51 := Tryd.zeroValue23
  t53 := Tryd.underlying42
  a53 := Tryd.isAgg42
  z53 := Tryd.sizeOf42
  v53 := Tryd.zeroValue42
  t171 := Tryd.underlying102
  a171 := Tryd.isAgg102
  z171 := Tryd.sizeOf102
  v171 := Tryd.zeroValue102
  t173 := Tryd.underlying105
  a173 := Tryd.isAgg105
  z173 := Tryd.sizeOf105
  v173 := Tryd.zeroValue105
  t212 := Tryd.underlying110
  a212 := Tryd.isAgg110
  z212 := Tryd.sizeOf110
  v212 := Tryd.zeroValue110
  t213 := Tryd.underlying111
  a213 := Tryd.isAgg111
  z213 := Tryd.sizeOf111
  t232 := Tryd.underlying121
  a232 := Tryd.isAgg121
  z232 := Tryd.sizeOf121
  v232 := Tryd.zeroValue121
  t233 := Tryd.underlying122
  a233 := Tryd.isAgg122
  z233 := Tryd.sizeOf122
  v233 := Tryd.zeroValue122
  g17 := by kernel_rfl
  g18 := by kernel_rfl
  g19 := by kernel_rfl
  i0 := by kernel_rfl
  i2 := by kernel_rfl
  i3 := by kernel_rfl
  i4 := by kernel_rfl
  i5 := by kernel_rfl
  i9 := by kernel_rfl
  i20 := by kernel_rfl
  i37 := by kernel_rfl
  i46 := by kernel_rfl
  i51 := by kernel_rfl
  i53 := by kernel_rfl
  i171 := by kernel_rfl
  i173 := by kernel_rfl
  i212 := by kernel_rfl
  i232 := by kernel_rfl
  i233 := by kernel_rfl
  m17 := by kernel_rfl
  m18 := by kernel_rfl
  m19 := by kernel_rfl }
end Go.Proofs.YtbdedjokahopmaaDoor

/-
  The program's Text of layer 7, by the shelf's strconv.Itoa; the table that it reads.
-/
namespace Go.Proofs.YtbdedjokahopmaaDoor
open Go.RowKit

/-- The table of the powers of ten. -/
def Pow (w : World) : Prop := Lib.TabIs Tryd.prog w "internal/strconv.uint64pow10" .u64 Lib.pow10Tab
theorem Tryd.n_pow : Tryd.prog.globalNamed "internal/strconv.uint64pow10" = some 2 := by kernel_rfl
theorem Pow.belowB {w w' : World} {B : Nat} (h : Pow w) (hB : 2 < B) (hb : Below B w w') : Pow w' := by
  have h1 : w.var? Tryd.prog "internal/strconv.uint64pow10" = _ := h
  show w'.var? Tryd.prog "internal/strconv.uint64pow10" = _
  rw [← h1]
  simp only [World.var?, Tryd.n_pow, Option.bind_some, hb.block _ hB]
theorem Pow.lt {w : World} (h : Pow w) : 2 < w.heap.size := by
  have h1 : w.var? Tryd.prog "internal/strconv.uint64pow10" = some (Lib.pow10Tab.map fun z => Value.int .u64 z).toArray := h
  simp only [World.var?, Tryd.n_pow, Option.bind_some] at h1
  cases hc : w.heap[2]? with
  | none => rw [hc] at h1; cases h1
  | some o => exact (Array.getElem?_eq_some_iff.1 hc).1
theorem Pow.below {w w' : World} (h : Pow w) (hb : Below w.heap.size w w') : Pow w' := h.belowB h.lt hb
theorem dec_same7 : ∀ n : Fin 256, Lib.itoa (n.val : Int) = dec8 n.val := by decide +kernel
theorem below_grow7 (w : World) (k : Nat) (os : Array Obj) : Below w.heap.size w (Go.Sort.grow (w.drewN k) os) :=
  ⟨rfl, rfl, rfl, by simp [Go.Sort.grow], fun j hj => by
    show (w.heap ++ os)[j]? = w.heap[j]?
    rw [Array.getElem?_append_left hj]⟩
theorem itoa7_any (n : Nat) (hn : n < 256) (w : World) (hp : Pow w) : Calls Tryd.prog 28 #[.int .i64 (n : Int)] w fun e w' => e = .returned (.string (btx (dec8 n))) ∧ Below w.heap.size w w' := by
  refine (Any.strconv_Itoa lays171 (n : Int) (by omega) (by omega) w hp).mono ?_
  rintro e w' ⟨rfl, k, os, rfl⟩
  exact ⟨by rw [dec_same7 ⟨n, hn⟩]; rfl, below_grow7 w k os⟩
theorem and255 (x : Nat) (hx : x < 4294967296) : bits .and .u32 (x : Int) 255 = ((x % 256 : Nat) : Int) := by
  have := u32_and_nat x 255 hx (by omega)
  have e : ((255 : Nat) : Int) = 255 := rfl
  rw [e] at this
  rw [this, Nat.and_two_pow_sub_one_eq_mod x 8]

set_option maxHeartbeats 1000000 in
theorem zpart_24 (a b n : Nat) (w : World) (ha : a < 4294967296) (hn : a / 16777216 % 256 = n) (hc : w.cell? ⟨b, 0, none⟩ = some (.int .u32 (a : Int))) (hp : Pow w) :
    Calls Tryd.prog 27 #[.int .i64 24, .pointer (some ⟨b, 0, none⟩)] w fun e w' => e = .returned (.string (btx (dec8 n))) ∧ Below w.heap.size w w' := by
  have hx : bits .and .u32 ((a : Int) / 16777216) 255 = (n : Int) := by
    have e : ((a : Int) / 16777216) = ((a / 16777216 : Nat) : Int) := by omega
    rw [e, and255 _ (by omega), hn]
  have hn2 : n < 256 := by omega
  have HP := Lib.hid hp
  clear hn hp
  go_enter Tryd.func27, Tryd.ntmps27
  go_wp2_with (go_at_call 28; refine (itoa7_any n hn2 _ HP.out).mono ?_; rintro e w1 ⟨rfl, hb⟩; have HB := Lib.hid hb; clear hb)
  go_ret
  exact ⟨rfl, HB.out⟩
set_option maxHeartbeats 1000000 in
theorem zpart_16 (a b n : Nat) (w : World) (ha : a < 4294967296) (hn : a / 65536 % 256 = n) (hc : w.cell? ⟨b, 0, none⟩ = some (.int .u32 (a : Int))) (hp : Pow w) :
    Calls Tryd.prog 27 #[.int .i64 16, .pointer (some ⟨b, 0, none⟩)] w fun e w' => e = .returned (.string (btx (dec8 n))) ∧ Below w.heap.size w w' := by
  have hx : bits .and .u32 ((a : Int) / 65536) 255 = (n : Int) := by
    have e : ((a : Int) / 65536) = ((a / 65536 : Nat) : Int) := by omega
    rw [e, and255 _ (by omega), hn]
  have hn2 : n < 256 := by omega
  have HP := Lib.hid hp
  clear hn hp
  go_enter Tryd.func27, Tryd.ntmps27
  go_wp2_with (go_at_call 28; refine (itoa7_any n hn2 _ HP.out).mono ?_; rintro e w1 ⟨rfl, hb⟩; have HB := Lib.hid hb; clear hb)
  go_ret
  exact ⟨rfl, HB.out⟩
set_option maxHeartbeats 1000000 in
theorem zpart_8 (a b n : Nat) (w : World) (ha : a < 4294967296) (hn : a / 256 % 256 = n) (hc : w.cell? ⟨b, 0, none⟩ = some (.int .u32 (a : Int))) (hp : Pow w) :
    Calls Tryd.prog 27 #[.int .i64 8, .pointer (some ⟨b, 0, none⟩)] w fun e w' => e = .returned (.string (btx (dec8 n))) ∧ Below w.heap.size w w' := by
  have hx : bits .and .u32 ((a : Int) / 256) 255 = (n : Int) := by
    have e : ((a : Int) / 256) = ((a / 256 : Nat) : Int) := by omega
    rw [e, and255 _ (by omega), hn]
  have hn2 : n < 256 := by omega
  have HP := Lib.hid hp
  clear hn hp
  go_enter Tryd.func27, Tryd.ntmps27
  go_wp2_with (go_at_call 28; refine (itoa7_any n hn2 _ HP.out).mono ?_; rintro e w1 ⟨rfl, hb⟩; have HB := Lib.hid hb; clear hb)
  go_ret
  exact ⟨rfl, HB.out⟩
set_option maxHeartbeats 1000000 in
theorem zpart_0 (a b n : Nat) (w : World) (ha : a < 4294967296) (hn : a % 256 = n) (hc : w.cell? ⟨b, 0, none⟩ = some (.int .u32 (a : Int))) (hp : Pow w) :
    Calls Tryd.prog 27 #[.int .i64 0, .pointer (some ⟨b, 0, none⟩)] w fun e w' => e = .returned (.string (btx (dec8 n))) ∧ Below w.heap.size w w' := by
  have hx : bits .and .u32 ((a : Int)) 255 = (n : Int) := by
    rw [and255 _ (by omega), hn]
  have hn2 : n < 256 := by omega
  have HP := Lib.hid hp
  clear hn hp
  go_enter Tryd.func27, Tryd.ntmps27
  go_wp2_with (go_at_call 28; refine (itoa7_any n hn2 _ HP.out).mono ?_; rintro e w1 ⟨rfl, hb⟩; have HB := Lib.hid hb; clear hb)
  go_ret
  exact ⟨rfl, HB.out⟩

set_option maxHeartbeats 1000000 in
set_option maxRecDepth 100000 in
theorem ztext_any (a : Nat) (w : World) (ha : a < 4294967296) (hp : Pow w) : Calls Tryd.prog 14 #[.int .u32 (a : Int)] w (TextPost7 (btx (text7 a)) w) := by
  have HB := Lib.hid ((Below.refl w.heap.size w).alloc (Nat.le_refl _) (.cells #[.int .u32 (a : Int)] 23))
  have HP := Lib.hid (hp.below HB.out)
  have HC : Hid ((w.alloc (.cells #[.int .u32 (a : Int)] 23)).cell? ⟨w.heap.size, 0, none⟩ = some (.int .u32 (a : Int))) := cell_one_new w (.int .u32 (a : Int)) 23 0 _ rfl
  have hlt : w.heap.size < (w.alloc (.cells #[.int .u32 (a : Int)] 23)).heap.size := by simp
  have HT : Hid (btx (text7 a) = btx (dec8 (a / 16777216)) ++ ⟨#[46]⟩ ++ btx (dec8 (a / 65536 % 256)) ++ ⟨#[46]⟩ ++ btx (dec8 (a / 256 % 256)) ++ ⟨#[46]⟩ ++ btx (dec8 (a % 256))) := by
    refine ByteArray.ext (Array.toList_inj.1 ?_)
    show text7 a = _
    simp [btx, text7]
  have e0 : a / 16777216 % 256 = a / 16777216 := Nat.mod_eq_of_lt (by omega)
  have E0 := Lib.hid e0
  have s0 : (btx (dec8 (a / 16777216))).size ≤ 3 := by rw [btx_size]; exact (dec8_len (by omega)).2
  have s1 : (btx (dec8 (a / 65536 % 256))).size ≤ 3 := by rw [btx_size]; exact (dec8_len (by omega)).2
  have s2 : (btx (dec8 (a / 256 % 256))).size ≤ 3 := by rw [btx_size]; exact (dec8_len (by omega)).2
  have s3 : (btx (dec8 (a % 256))).size ≤ 3 := by rw [btx_size]; exact (dec8_len (by omega)).2
  clear e0 hp
  go_enter Tryd.func14, Tryd.ntmps14
  go_wp2_with (first
    | (go_at_call 27; (with_reducible refine (zpart_24 a w.heap.size _ _ ha E0.out HC.out HP.out).mono ?_); rintro e w1 ⟨rfl, hb⟩; have HC := Lib.hid ((hb.cell (p := ⟨w.heap.size, 0, none⟩) hlt).trans HC.out); have hlt := Nat.lt_of_lt_of_le hlt hb.size; have HP := Lib.hid (HP.out.below hb); have HB := Lib.hid (HB.out.trans (hb.mono HB.out.size)); clear hb)
    | (go_at_call 27; (with_reducible refine (zpart_16 a w.heap.size _ _ ha rfl HC.out HP.out).mono ?_); rintro e w2 ⟨rfl, hb⟩; have HC := Lib.hid ((hb.cell (p := ⟨w.heap.size, 0, none⟩) hlt).trans HC.out); have hlt := Nat.lt_of_lt_of_le hlt hb.size; have HP := Lib.hid (HP.out.below hb); have HB := Lib.hid (HB.out.trans (hb.mono HB.out.size)); clear hb)
    | (go_at_call 27; (with_reducible refine (zpart_8 a w.heap.size _ _ ha rfl HC.out HP.out).mono ?_); rintro e w3 ⟨rfl, hb⟩; have HC := Lib.hid ((hb.cell (p := ⟨w.heap.size, 0, none⟩) hlt).trans HC.out); have hlt := Nat.lt_of_lt_of_le hlt hb.size; have HP := Lib.hid (HP.out.below hb); have HB := Lib.hid (HB.out.trans (hb.mono HB.out.size)); clear hb)
    | (go_at_call 27; (with_reducible refine (zpart_0 a w.heap.size _ _ ha rfl HC.out HP.out).mono ?_); rintro e w4 ⟨rfl, hb⟩; have HB := Lib.hid (HB.out.trans (hb.mono HB.out.size)); clear hb))
  go_ret
  exact ⟨by rw [HT.out]; rfl, HB.out⟩
end Go.Proofs.YtbdedjokahopmaaDoor

/-
  The small functions of package fail and of the document's answers, by their contracts.
-/
namespace Go.Proofs.YtbdedjokahopmaaDoor
open Go.RowKit

set_option maxHeartbeats 400000 in
theorem wrap_nil (s : ByteArray) (w : World) :
    Calls Tryd.prog 33 #[.string s, .nilIface] w fun e w' => e = .returned .nilIface ∧ w = w' := by
  go_enter Tryd.func33, Tryd.ntmps33
  go_wp2
  go_ret
  exact ⟨rfl, rfl⟩

set_option maxHeartbeats 400000 in
theorem wrap_held (s : ByteArray) (u : TypeId) (x : Value) (w : World) :
    Calls Tryd.prog 33 #[.string s, .iface u x] w fun e w' => e = .returned (.iface 80 (.pointer (some ⟨w.heap.size, 0, none⟩))) ∧ w.alloc (.cells #[.string s, .iface u x] 82) = w' := by
  go_enter Tryd.func33, Tryd.ntmps33
  go_wp2
  go_ret
  exact ⟨rfl, rfl⟩

set_option maxHeartbeats 400000 in
theorem unwrap_nil (w : World) :
    Calls Tryd.prog 109 #[.pointer none] w fun e w' => e = .returned .nilIface ∧ w = w' := by
  go_enter Tryd.func109, Tryd.ntmps109
  go_wp2
  go_ret
  exact ⟨rfl, rfl⟩

set_option maxHeartbeats 400000 in
theorem unwrap_at (b : Nat) (v : Value) (w : World) (h : w.cell? ⟨b, 1, none⟩ = some v) :
    Calls Tryd.prog 109 #[.pointer (some ⟨b, 0, none⟩)] w fun e w' => e = .returned v ∧ w = w' := by
  go_enter Tryd.func109, Tryd.ntmps109
  go_wp2
  go_ret
  exact ⟨rfl, rfl⟩

theorem Chain.held {w : World} {cs : List ByteArray} {n : Int} {v : Value} (h : Chain w cs (some n) v) : ∃ u x, v = .iface u x := by
  cases cs with
  | nil => exact ⟨_, _, h⟩
  | cons c cs => obtain ⟨b, v', e, _⟩ := h; exact ⟨_, _, e⟩

theorem Chain.lay {w : World} {cs : List ByteArray} {o : Option Int} {v : Value} (s : ByteArray) (h : Chain w cs o v) :
    Chain (w.alloc (.cells #[.string s, v] 82)) (s :: cs) o (.iface 80 (.pointer (some ⟨w.heap.size, 0, none⟩))) :=
  ⟨w.heap.size, v, rfl, by simp, by simp, by simp, h.below ((Below.refl _ _).alloc (Nat.le_refl _) _)⟩

def AllPost (w : World) (ss : List ByteArray) (n : Int) (e : Ending) (w' : World) : Prop :=
  ∃ u x, e = .returned (.iface u x) ∧ Chain w' ss.reverse (some n) (.iface u x) ∧ Below w.heap.size w w'

def AllRel (w : World) (ss : List ByteArray) (n : Int) (k : Nat) (v : Value) (w' : World) : Prop :=
  ∃ u x, v = .iface u x ∧ Chain w' (ss.take k).reverse (some n) (.iface u x) ∧ Below w.heap.size w w'

end Go.Proofs.YtbdedjokahopmaaDoor

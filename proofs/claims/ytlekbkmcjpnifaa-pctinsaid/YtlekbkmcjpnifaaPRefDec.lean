/-
  The document's Decode, by its contract.
-/
import Derived.Test.YtlekbkmcjpnifaaPRefIn2
import Derived.Test.YtlekbkmcjpnifaaPDec
import Derived.Deep.RegionHeld3
import Derived.Deep.AppendLies
import Derived.Deep.DrawnRows
namespace Go.Proofs.Ytlekbkmcjpnifaa
open Go.RowKit

theorem value_is {b : UInt8} {x : Int} (h : val b.toNat = x) (w : World) :
    Calls Try.prog 28 #[.int .u8 (b.toNat : Int)] w fun e w' => e = .returned (.int .i64 x) ∧ w = w' :=
  (value3_any b.toNat w (by omega) (by have := b.toNat_lt; omega)).mono fun _ _ ⟨he, hw⟩ => ⟨by rw [he, h], hw.symm⟩

theorem grown_undrew {w w1 : World} {o : Option Nat} (h : w.drew.grownBy w1 o) : w.grownBy w1 o := ⟨h.os, h.tape, h.output, h.size, h.block⟩
theorem value_of (b : UInt8) (w : World) :
    Calls Try.prog 28 #[.int .u8 (b.toNat : Int)] w fun e w' => e = .returned (.int .i64 (val b.toNat)) ∧ w = w' := value_is rfl w

/-- The text told till a place. -/
def DecB (w : World) (s : ByteArray) (k : Nat) (v : Value) (wr : World) : Prop :=
  ∃ l, pd s.data.toList = l ++ pd (s.data.toList.drop k) ∧ l.length ≤ k ∧ MadeB w wr v l

set_option maxHeartbeats 2000000 in
set_option maxRecDepth 100000 in
theorem refPd_any (s : ByteArray) (w : World) (h1 : s.size ≤ 5000) :
    Calls Try.prog 14 #[.string s] w (TextPost (pd s.data.toList) w) := by
  obtain ⟨i0, hi, hz0, hz1, hz2⟩ := info_parts Try.infoB
  have HI := Lib.hid (And.intro hi (And.intro hz0 (And.intro hz1 hz2)))
  clear hi hz0 hz1 hz2
  go_enter Try.func14, Try.ntmps14
  go_wp2
  go_loopw [3, 4] (fun v i wr => ∃ k : Nat, k ≤ s.size ∧ i = .int .i64 k ∧ DecB w s k v wr) (fun _ i _ => s.size - (intOf i).toNat)
  case atStart => exact ⟨0, Nat.zero_le _, rfl, [], rfl, Nat.le_refl _, World.ownsRow_nil _ _ _ _, Below.refl _ _⟩
  case round =>
    obtain ⟨k, hk, rfl, l, hd, hl, hm⟩ := hrel
    have HD := Lib.hid hd
    have HM := Lib.hid hm
    clear hd hm
    by_cases hlt : k < s.size
    · have HS := Lib.hid (pd_step (l := s.data.toList.drop k) (by rw [drop_cons s k hlt]; simp))
      have hu := (s[k]'hlt).toNat_lt
      obtain ⟨⟨x, p⟩, hx⟩ : ∃ y, fvAt s (k + 1) = y := ⟨_, rfl⟩
      obtain ⟨⟨y, q⟩, hy⟩ : ∃ y, fvAt s (k + 2) = y := ⟨_, rfl⟩
      have hx0 := fvAt_small s (k + 1)
      have hy0 := fvAt_small s (k + 2)
      rw [hx] at hx0
      rw [hy] at hy0
      simp only at hx0 hy0
      obtain ⟨hx0, hx1⟩ := hx0
      obtain ⟨hy0, hy1⟩ := hy0
      have HX := Lib.hid hx
      have HY := Lib.hid hy
      clear hx hy
      by_cases htake : s[k]'hlt = 37 ∧ p = true ∧ q = true
      · obtain ⟨e37, rfl, rfl⟩ := htake
        have HT := Lib.hid (step_take hlt e37 HX.out HY.out)
        have hle : k + 3 ≤ s.size := HT.out.2
        have heq : (((s[k]'hlt).toNat : Int) == 37) = true := by rw [e37]; rfl
        have hk1 : k + 1 < s.size := by omega
        have hk2 : k + 2 < s.size := by omega
        have HV1 : Hid (val (s[k + 1]'hk1).toNat = x) := (fvAt_true HX.out).2.2
        have HV2 : Hid (val (s[k + 2]'hk2).toNat = y) := (fvAt_true HY.out).2.2
        clear e37
        go_wp2_with (first
          | (go_at_call 28; with_reducible refine (value_is HV1.out _).mono ?_; rintro e w' ⟨rfl, rfl⟩)
          | (go_at_call 28; with_reducible refine (value_is HV2.out _).mono ?_; rintro e w' ⟨rfl, rfl⟩))
        have hw1 : IntKind.i64.wrap ((k : Int) + 1) = (k : Int) + 1 := IntWalk.i64_in _ (by omega)
        have hw2 : IntKind.i64.wrap ((k : Int) + 2) = (k : Int) + 2 := IntWalk.i64_in _ (by omega)
        have hw3 : IntKind.i64.wrap (16 * x) = 16 * x := IntWalk.i64_in _ (by omega)
        have hw4 : IntKind.i64.wrap (16 * x + y) = 16 * x + y := IntWalk.i64_in _ (by omega)
        have hw5 : IntKind.u8.wrap (16 * x + y) = 16 * x + y := by simp [IntKind.wrap, IntKind.bits, IntKind.signed]; omega
        have ht1 : ((k : Int) + 1).toNat = k + 1 := by omega
        have ht2 : ((k : Int) + 2).toNat = k + 2 := by omega
        have hz := HM.out.2.size
        go_region_held3 (fun _ => True) (trivial) (first
          | (refine step_append_lies _ (by rfl) (.tmp 36) (.tmp 50) 35 (by rfl) w.heap.size 5 i0 (.int .u8 0) 1 1 Try.underlying35 HI.out.1 HI.out.2.1 HI.out.2.2.1 HI.out.2.2.2 rfl (by decide) _ _ _ (by rfl) (HM.out.1.alloc (.cells #[.int .u8 (16 * x + y)] 5)) ⟨wr.heap.size, 0, none⟩ 1 1 [.int .u8 (16 * x + y)] (by rfl) rfl (cell_one_new wr _ _) (by simp [Value.oneCell']) (by decide) (by simp only [maxLen]; omega) (by omega) (by simp; omega) (wr.heap.size + 1) (by simp) ?_
             intro g cap w1 hown hgrow hat hlt)
          | (go_at_call 28; with_reducible refine (value_is HV1.out _).mono ?_; rintro e w' ⟨rfl, rfl⟩)
          | (go_at_call 28; with_reducible refine (value_is HV2.out _).mono ?_; rintro e w' ⟨rfl, rfl⟩))
        all_goals
          go_wp2
          go_roundw
          case rel =>
            refine ⟨k + 3, hle, by go_num, l ++ [UInt8.ofNat (16 * x + y).toNat], ?_, by simp; omega, ?_⟩
            · rw [HD.out, HS.out, HT.out.1]
              simp [List.drop_drop]
            · refine HM.out.push (t := [UInt8.ofNat (16 * x + y).toNat]) (tmp := .cells #[.int .u8 (16 * x + y)] 5) ?_ (grown_undrew hgrow)
              have e : cellsOf [UInt8.ofNat (16 * x + y).toNat] = [.int .u8 (16 * x + y)] := by
                simp only [cellsOf, List.map, ofNat_toNat (16 * x + y).toNat (by omega)]
                rw [Int.toNat_of_nonneg (by omega)]
              rw [e]
              exact hown
          case measure => simp [intOf]; omega
      · have HT : Hid (step (s.data.toList.drop k) = (s[k]'hlt, 1)) := by
          refine step_leave hlt ?_
          rw [HX.out, HY.out]
          cases p <;> cases q <;> simp_all
        have hz := HM.out.2.size
        by_cases hk2 : k + 2 < s.size
        · have hk1 : k + 1 < s.size := by omega
          by_cases heq : (((s[k]'hlt).toNat : Int) == 37) = true
          · have e37 : s[k]'hlt = 37 := UInt8.toNat_inj.1 (by have := LawfulBEq.eq_of_beq heq; show _ = 37; omega)
            cases p with
            | false =>
              have HV1 := Lib.hid (fvAt_false HX.out hk1)
              have hv1 : ¬ 0 ≤ val ((s[k + 1]'hk1).toNat : Int) := HV1.out
              clear htake e37
              go_wp2_with (first
                | (go_at_call 28; with_reducible refine (value_of (s[k + 1]'(by assumption)) _).mono ?_; rintro e w' ⟨rfl, rfl⟩)
                | (go_at_call 28; with_reducible refine (value_of (s[k + 2]'(by assumption)) _).mono ?_; rintro e w' ⟨rfl, rfl⟩)
                | (at_builtin
                   refine wpList_append_own _ rfl (.tmp 54) (.tmp 58) 35 rfl w.heap.size 5 i0 _ 1 1 Try.underlying35 HI.out.1 HI.out.2.1 HI.out.2.2.1 HI.out.2.2.2 rfl (by decide) _ _ _ rfl (HM.out.1.alloc _) ⟨wr.heap.size, 0, none⟩ 1 1 (cellsOf [s[k]'hlt]) rfl rfl (cell_one_new _ _ _) (cellsOf_one _) ?ha ?hb ?hc ?_
                   case ha => simp only [maxLen]; omega
                   case hb => omega
                   case hc => have := HM.out.2.size; simp; omega
                   intro v' w2 hown' hgrow _))
              go_roundw
              case rel => exact ⟨k + 1, hlt, by go_num, l ++ [s[k]'hlt], by rw [HD.out, HS.out, HT.out]; simp [List.drop_drop], by simp; omega, HM.out.push hown' hgrow⟩
              case measure => simp [intOf]; omega
            | true =>
              cases q with
              | false =>
                have hv1 : 0 ≤ val ((s[k + 1]'hk1).toNat : Int) := (fvAt_true HX.out).2.1
                have HV2 := Lib.hid (fvAt_false HY.out hk2)
                have hv2 : ¬ 0 ≤ val ((s[k + 2]'hk2).toNat : Int) := HV2.out
                clear htake e37
                go_wp2_with (first
                  | (go_at_call 28; with_reducible refine (value_of (s[k + 1]'(by assumption)) _).mono ?_; rintro e w' ⟨rfl, rfl⟩)
                  | (go_at_call 28; with_reducible refine (value_of (s[k + 2]'(by assumption)) _).mono ?_; rintro e w' ⟨rfl, rfl⟩)
                  | (at_builtin
                     refine wpList_append_own _ rfl (.tmp 54) (.tmp 58) 35 rfl w.heap.size 5 i0 _ 1 1 Try.underlying35 HI.out.1 HI.out.2.1 HI.out.2.2.1 HI.out.2.2.2 rfl (by decide) _ _ _ rfl (HM.out.1.alloc _) ⟨wr.heap.size, 0, none⟩ 1 1 (cellsOf [s[k]'hlt]) rfl rfl (cell_one_new _ _ _) (cellsOf_one _) ?ha ?hb ?hc ?_
                     case ha => simp only [maxLen]; omega
                     case hb => omega
                     case hc => have := HM.out.2.size; simp; omega
                     intro v' w2 hown' hgrow _))
                go_roundw
                case rel => exact ⟨k + 1, hlt, by go_num, l ++ [s[k]'hlt], by rw [HD.out, HS.out, HT.out]; simp [List.drop_drop], by simp; omega, HM.out.push hown' hgrow⟩
                case measure => simp [intOf]; omega
              | true => exact absurd ⟨e37, rfl, rfl⟩ htake
          · have heq : (((s[k]'hlt).toNat : Int) == 37) = false := by simpa using heq
            clear htake
            go_wp2_with (first
              | (go_at_call 28; with_reducible refine (value_of (s[k + 1]'(by assumption)) _).mono ?_; rintro e w' ⟨rfl, rfl⟩)
              | (go_at_call 28; with_reducible refine (value_of (s[k + 2]'(by assumption)) _).mono ?_; rintro e w' ⟨rfl, rfl⟩)
              | (at_builtin
                 refine wpList_append_own _ rfl (.tmp 54) (.tmp 58) 35 rfl w.heap.size 5 i0 _ 1 1 Try.underlying35 HI.out.1 HI.out.2.1 HI.out.2.2.1 HI.out.2.2.2 rfl (by decide) _ _ _ rfl (HM.out.1.alloc _) ⟨wr.heap.size, 0, none⟩ 1 1 (cellsOf [s[k]'hlt]) rfl rfl (cell_one_new _ _ _) (cellsOf_one _) ?ha ?hb ?hc ?_
                 case ha => simp only [maxLen]; omega
                 case hb => omega
                 case hc => have := HM.out.2.size; simp; omega
                 intro v' w2 hown' hgrow _))
            go_roundw
            case rel => exact ⟨k + 1, hlt, by go_num, l ++ [s[k]'hlt], by rw [HD.out, HS.out, HT.out]; simp [List.drop_drop], by simp; omega, HM.out.push hown' hgrow⟩
            case measure => simp [intOf]; omega
        · clear htake
          go_wp2_with (first
            | (go_at_call 28; with_reducible refine (value_of (s[k + 1]'(by assumption)) _).mono ?_; rintro e w' ⟨rfl, rfl⟩)
            | (go_at_call 28; with_reducible refine (value_of (s[k + 2]'(by assumption)) _).mono ?_; rintro e w' ⟨rfl, rfl⟩)
            | (at_builtin
               refine wpList_append_own _ rfl (.tmp 54) (.tmp 58) 35 rfl w.heap.size 5 i0 _ 1 1 Try.underlying35 HI.out.1 HI.out.2.1 HI.out.2.2.1 HI.out.2.2.2 rfl (by decide) _ _ _ rfl (HM.out.1.alloc _) ⟨wr.heap.size, 0, none⟩ 1 1 (cellsOf [s[k]'hlt]) rfl rfl (cell_one_new _ _ _) (cellsOf_one _) ?ha ?hb ?hc ?_
               case ha => simp only [maxLen]; omega
               case hb => omega
               case hc => have := HM.out.2.size; simp; omega
               intro v' w2 hown' hgrow _))
          go_roundw
          case rel => exact ⟨k + 1, hlt, by go_num, l ++ [s[k]'hlt], by rw [HD.out, HS.out, HT.out]; simp [List.drop_drop], by simp; omega, HM.out.push hown' hgrow⟩
          case measure => simp [intOf]; omega
    · have HE : Hid (l = pd s.data.toList) := by
        show l = pd s.data.toList
        rw [HD.out, drop_end s k (by omega), pd_nil, List.append_nil]
      have hcv := convert_bytes HM.out
      go_wp2
      go_ret
      exact ⟨by rw [HE.out]; rfl, HM.out.2⟩
end Go.Proofs.Ytlekbkmcjpnifaa

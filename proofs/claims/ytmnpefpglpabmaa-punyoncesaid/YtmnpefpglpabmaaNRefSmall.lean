/-
  The document's Small of layer 4, by its contract.
-/
import Derived.Test.YtmnpefpglpabmaaNRefDec
namespace Go.Proofs.Ytmnpefpglpabmaa
open Go.RowKit

theorem small_length (l : List UInt8) : (small l).length = l.length := by
  unfold small
  rw [List.length_append, List.length_map, List.length_take, List.length_drop]
  omega
theorem small_at (l : List UInt8) (k : Nat) (h : k < l.length) : (small l)[k]'(by rw [small_length]; exact h) = if hyph l < (k : Int) then lower l[k] else l[k] := by
  have hy := hyph_lt l
  have hne : l ≠ [] := by rintro rfl; simp at h
  have hy : -1 ≤ hyph l ∧ hyph l < l.length := hy.elim id (fun e => absurd e.1 hne)
  apply Option.some.inj
  rw [← List.getElem?_eq_getElem]
  unfold small
  split
  · rename_i hk
    rw [List.getElem?_append_right (by rw [List.length_take]; omega), List.length_take, List.getElem?_map, List.getElem?_drop]
    rw [show (hyph l + 1).toNat + (k - min (hyph l + 1).toNat l.length) = k by omega, List.getElem?_eq_getElem h]
    rfl
  · rename_i hk
    rw [List.getElem?_append_left (by rw [List.length_take]; omega), List.getElem?_take, if_pos (by omega), List.getElem?_eq_getElem h]

def TextPost (l : List UInt8) (w : World) (e : Ending) (w' : World) : Prop := e = .returned (.string ⟨l.toArray⟩) ∧ Below w.heap.size w w'

set_option maxHeartbeats 1000000 in
set_option maxRecDepth 100000 in
theorem refSmall_any (s : ByteArray) (w : World) (hs : s.size ≤ 900) :
    Calls Try.prog 12 #[.string s] w (TextPost (small s.data.toList) w) := by
  obtain ⟨i0, hi, hz0, hz1, hz2⟩ := info_parts Try.infoB
  have HI := Lib.hid (And.intro hi (And.intro hz0 (And.intro hz1 hz2)))
  clear hi hz0 hz1 hz2
  have hsl : s.data.toList.length = s.size := by simp
  have HSl := Lib.hid hsl
  obtain ⟨y, hy⟩ : ∃ y, hyph s.data.toList = y := ⟨_, rfl⟩
  have hhy := hyph_lt s.data.toList
  rw [hsl, hy] at hhy
  have hy0 : -1 ≤ y := by omega
  have hy1 : y ≤ 900 := by omega
  have HY := Lib.hid hy
  clear hsl hy hhy
  obtain ⟨S, hS⟩ : ∃ S, small s.data.toList = S := ⟨_, rfl⟩
  have HLen : Hid (S.length = s.size) := by
    show S.length = s.size
    rw [← hS, small_length, HSl.out]
  have HS := Lib.hid hS
  rw [hS]
  clear hS
  go_enter Try.func12, Try.ntmps12
  go_wp2_with (go_at_call 35; refine (hyphen_any _ _ (by omega)).mono ?_; rintro e w' ⟨rfl, rfl⟩; rw [HY.out])
  go_loopw [3, 5] (fun v i wr => ∃ k : Nat, k ≤ s.size ∧ i = .int .i64 k ∧ MadeB w wr v (S.take k)) (fun _ i _ => s.size - (intOf i).toNat)
  case atStart => exact ⟨0, Nat.zero_le _, rfl, ⟨World.ownsRow_nil _ _ _ _, Below.refl _ _⟩⟩
  case round =>
    obtain ⟨k, hk, rfl, hm⟩ := hrel
    have HM := Lib.hid hm
    have hlen : (S.take k).length = k := by rw [List.length_take, HLen.out]; omega
    by_cases hlt : k < s.size
    · have hl : k < s.data.toList.length := by rw [HSl.out]; exact hlt
      have hlS : k < S.length := by rw [HLen.out]; exact hlt
      have hu := (s[k]'hlt).toNat_lt
      have hat : S[k] = if y < (k : Int) then lower (s[k]'hlt) else s[k]'hlt := by
        have := small_at s.data.toList k hl
        rw [HY.out] at this
        simp only [HS.out] at this
        exact this
      have HT : Hid (S.take (k + 1) = S.take k ++ [S[k]]) := List.take_succ_eq_append_getElem hlS
      rw [hat] at HT
      obtain ⟨T, hT⟩ : ∃ T, S.take k = T := ⟨_, rfl⟩
      rw [hT] at HM HT hlen
      clear hT hm hat
      have HLen2 := Lib.hid hlen
      clear hlen
      by_cases hbig : y < (k : Int)
      · rw [if_pos hbig] at HT
        by_cases hup : 65 ≤ (s[k]'hlt).toNat ∧ (s[k]'hlt).toNat ≤ 90
        · obtain ⟨hu1, hu2⟩ := hup
          have HC : Hid (cellsOf [lower (s[k]'hlt)] = [.int .u8 (((s[k]'hlt).toNat : Int) + 32)]) := by
            show cellsOf [lower (s[k]'hlt)] = [.int .u8 (((s[k]'hlt).toNat : Int) + 32)]
            unfold lower
            rw [if_pos ⟨hu1, hu2⟩]
            simp only [cellsOf, List.map]
            rw [ofNat_toNat ((s[k]'hlt).toNat + 32) (by omega)]
            simp
          go_wp2_with (at_builtin
                       refine wpList_append_own _ rfl (.tmp 31) (.tmp 33) 41 rfl w.heap.size 5 i0 _ 1 1 Try.underlying41 HI.out.1 HI.out.2.1 HI.out.2.2.1 HI.out.2.2.2 rfl (by decide) _ _ _ rfl (HM.out.1.alloc _) ⟨wr.heap.size, 0, none⟩ 1 1 [.int .u8 (((s[k]'hlt).toNat : Int) + 32)] rfl rfl (cell_one_new _ _ _) (by simp [Value.oneCell']) ?ha ?hb ?hc ?_
                       case ha => rw [HLen2.out]; simp only [maxLen]; omega
                       case hb => rw [HLen2.out]; omega
                       case hc => have := HM.out.2.size; simp; omega
                       intro v' w2 hown' hgrow _)
          go_roundw
          case rel => exact ⟨k + 1, by omega, by go_num, by rw [HT.out]; exact HM.out.push (t := [lower (s[k]'hlt)]) (by rw [HC.out]; exact hown') hgrow⟩
          case measure => simp [intOf]; omega
        · have hlo : lower (s[k]'hlt) = s[k]'hlt := by unfold lower; rw [if_neg hup]
          rw [hlo] at HT
          clear hlo
          by_cases hlow : 65 ≤ (s[k]'hlt).toNat
          · have hhi : 90 < (s[k]'hlt).toNat := by omega
            clear hup
            go_wp2_with (at_builtin
                         refine wpList_append_own _ rfl (.tmp 31) (.tmp 33) 41 rfl w.heap.size 5 i0 _ 1 1 Try.underlying41 HI.out.1 HI.out.2.1 HI.out.2.2.1 HI.out.2.2.2 rfl (by decide) _ _ _ rfl (HM.out.1.alloc _) ⟨wr.heap.size, 0, none⟩ 1 1 (cellsOf [s[k]'hlt]) rfl rfl (cell_one_new _ _ _) (cellsOf_one _) ?ha ?hb ?hc ?_
                         case ha => rw [HLen2.out]; simp only [maxLen]; omega
                         case hb => rw [HLen2.out]; omega
                         case hc => have := HM.out.2.size; simp; omega
                         intro v' w2 hown' hgrow _)
            go_roundw
            case rel => exact ⟨k + 1, by omega, by go_num, by rw [HT.out]; exact HM.out.push hown' hgrow⟩
            case measure => simp [intOf]; omega
          · clear hup
            go_wp2_with (at_builtin
                         refine wpList_append_own _ rfl (.tmp 31) (.tmp 33) 41 rfl w.heap.size 5 i0 _ 1 1 Try.underlying41 HI.out.1 HI.out.2.1 HI.out.2.2.1 HI.out.2.2.2 rfl (by decide) _ _ _ rfl (HM.out.1.alloc _) ⟨wr.heap.size, 0, none⟩ 1 1 (cellsOf [s[k]'hlt]) rfl rfl (cell_one_new _ _ _) (cellsOf_one _) ?ha ?hb ?hc ?_
                         case ha => rw [HLen2.out]; simp only [maxLen]; omega
                         case hb => rw [HLen2.out]; omega
                         case hc => have := HM.out.2.size; simp; omega
                         intro v' w2 hown' hgrow _)
            go_roundw
            case rel => exact ⟨k + 1, by omega, by go_num, by rw [HT.out]; exact HM.out.push hown' hgrow⟩
            case measure => simp [intOf]; omega
      · rw [if_neg hbig] at HT
        go_wp2_with (at_builtin
                     refine wpList_append_own _ rfl (.tmp 31) (.tmp 33) 41 rfl w.heap.size 5 i0 _ 1 1 Try.underlying41 HI.out.1 HI.out.2.1 HI.out.2.2.1 HI.out.2.2.2 rfl (by decide) _ _ _ rfl (HM.out.1.alloc _) ⟨wr.heap.size, 0, none⟩ 1 1 (cellsOf [s[k]'hlt]) rfl rfl (cell_one_new _ _ _) (cellsOf_one _) ?ha ?hb ?hc ?_
                     case ha => rw [HLen2.out]; simp only [maxLen]; omega
                     case hb => rw [HLen2.out]; omega
                     case hc => have := HM.out.2.size; simp; omega
                     intro v' w2 hown' hgrow _)
        go_roundw
        case rel => exact ⟨k + 1, by omega, by go_num, by rw [HT.out]; exact HM.out.push hown' hgrow⟩
        case measure => simp [intOf]; omega
    · have HE : Hid (S.take k = S) := List.take_of_length_le (by rw [HLen.out]; omega)
      have hcv := convert_bytes hm
      clear hm hlen
      go_wp2
      go_ret
      exact ⟨by rw [HE.out]; rfl, HM.out.2⟩
end Go.Proofs.Ytmnpefpglpabmaa

/-
  The document's Small and Cut of layer 10, by their contracts.
-/
import Derived.Test.YtcndcdkcbkjbaaaDoorSchMay
namespace Go.Proofs.YtcndcdkcbkjbaaaDoor
open Go.RowKit

def Text10 (l : List UInt8) (w : World) (e : Ending) (w' : World) : Prop := e = .returned (.string ⟨l.toArray⟩) ∧ Below w.heap.size w w'
theorem small10_take {s : ByteArray} {k : Nat} (h : k < s.size) : small10 (s.data.toList.take (k + 1)) = small10 (s.data.toList.take k) ++ [low10 (s[k]'h)] := by
  unfold small10
  rw [List.take_succ_eq_append_getElem (by rw [len10]; exact h), List.map_append]
  rfl
theorem small10_len (l : List UInt8) : (small10 l).length = l.length := by unfold small10; rw [List.length_map]

set_option maxHeartbeats 2000000 in
set_option maxRecDepth 100000 in
theorem refSmall_any (s : ByteArray) (w : World) (h1 : s.size ≤ 100000) :
    Calls Tryd.prog 20 #[.string s] w (Text10 (small10 s.data.toList) w) := by
  obtain ⟨i0, hi, hz0, hz1, hz2⟩ := info_parts Tryd.infoB
  have HI := Lib.hid (And.intro hi (And.intro hz0 (And.intro hz1 hz2)))
  clear hi hz0 hz1 hz2
  go_enter Tryd.func20, Tryd.ntmps20
  go_wp2
  go_loopw [3, 4] (fun v i wr => ∃ k : Nat, k ≤ s.size ∧ i = .int .i64 k ∧ MadeB w wr v (small10 (s.data.toList.take k))) (fun _ i _ => s.size - (intOf i).toNat)
  case atStart => exact ⟨0, Nat.zero_le _, rfl, World.ownsRow_nil _ _ _ _, Below.refl _ _⟩
  case round =>
    obtain ⟨k, hk, rfl, hm⟩ := hrel
    have HM := Lib.hid hm
    clear hm
    by_cases hlt : k < s.size
    · have hu := (s[k]'hlt).toNat_lt
      have HN := Lib.hid (small10_take hlt)
      have hv := low10_val (s[k]'hlt)
      have HL := Lib.hid (small10_len (s.data.toList.take k))
      have hlen : (s.data.toList.take k).length ≤ k := List.length_take_le _ _
      obtain ⟨d, hd⟩ : ∃ d, low10 (s[k]'hlt) = d := ⟨_, rfl⟩
      rw [hd] at hv HN
      clear hd
      by_cases hc : 65 ≤ (s[k]'hlt).toNat ∧ (s[k]'hlt).toNat ≤ 90
      · rw [if_pos hc] at hv
        obtain ⟨hc1, hc2⟩ := hc
        have hw : IntKind.u8.wrap (((s[k]'hlt).toNat : Int) + 32) = (d.toNat : Int) := by rw [hv]; simp [IntKind.wrap, IntKind.bits, IntKind.signed]; omega
        clear hv
        go_wp2_with (at_builtin
                     refine wpList_append_own _ rfl (.tmp 23) (.tmp 25) 47 rfl w.heap.size 5 i0 _ 1 1 Tryd.underlying47 HI.out.1 HI.out.2.1 HI.out.2.2.1 HI.out.2.2.2 rfl (by decide) _ _ _ rfl (HM.out.1.alloc _) ⟨wr.heap.size, 0, none⟩ 1 1 (cellsOf [d]) rfl rfl (cell_one_new _ _ _) (cellsOf_one _) ?ha ?hb ?hc ?_
                     case ha => simp only [maxLen]; have := HL.out; omega
                     case hb => have := HL.out; omega
                     case hc => have := HM.out.2.size; simp; omega
                     intro v' w2 hown' hgrow _)
        go_roundw
        case rel => exact ⟨k + 1, hlt, by go_num, by rw [HN.out]; exact HM.out.push hown' hgrow⟩
        case measure => simp [intOf]; omega
      · rw [if_neg hc] at hv
        have hdd : d = s[k]'hlt := UInt8.toNat_inj.1 (by omega)
        subst hdd
        clear hv
        go_wp2_with (at_builtin
                     refine wpList_append_own _ rfl (.tmp 23) (.tmp 25) 47 rfl w.heap.size 5 i0 _ 1 1 Tryd.underlying47 HI.out.1 HI.out.2.1 HI.out.2.2.1 HI.out.2.2.2 rfl (by decide) _ _ _ rfl (HM.out.1.alloc _) ⟨wr.heap.size, 0, none⟩ 1 1 (cellsOf [s[k]'hlt]) rfl rfl (cell_one_new _ _ _) (cellsOf_one _) ?ha ?hb ?hc ?_
                     case ha => simp only [maxLen]; have := HL.out; omega
                     case hb => have := HL.out; omega
                     case hc => have := HM.out.2.size; simp; omega
                     intro v' w2 hown' hgrow _)
        all_goals
          go_roundw
          case rel => exact ⟨k + 1, hlt, by go_num, by rw [HN.out]; exact HM.out.push hown' hgrow⟩
          case measure => simp [intOf]; omega
    · have HE : Hid (small10 (s.data.toList.take k) = small10 s.data.toList) := by
        show small10 (s.data.toList.take k) = _
        rw [List.take_of_length_le (by rw [len10]; omega)]
      have hcv := convert_bytes HM.out
      go_wp2
      go_ret
      exact ⟨by rw [HE.out]; rfl, HM.out.2⟩
theorem small_is {s : ByteArray} {t : ByteArray} (h : small10 s.data.toList = t.data.toList) (hs : s.size ≤ 100000) (w : World) : Calls Tryd.prog 20 #[.string s] w fun e w' => e = .returned (.string t) ∧ Below w.heap.size w w' := by
  have := refSmall_any s w hs
  rw [h] at this
  exact this
end Go.Proofs.YtcndcdkcbkjbaaaDoor

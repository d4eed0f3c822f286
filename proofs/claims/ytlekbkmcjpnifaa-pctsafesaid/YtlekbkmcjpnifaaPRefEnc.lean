/-
  The document's Encode, by its contract.
-/
import Derived.Test.YtlekbkmcjpnifaaPRefDec
import Derived.Test.YtlekbkmcjpnifaaPEnc
namespace Go.Proofs.Ytlekbkmcjpnifaa
open Go.RowKit

def OneB (c : Int) (w : World) (e : Ending) (w' : World) : Prop := ∃ t : ByteArray, t.data.toList = enc1 c ∧ t.size ≤ 4 ∧ e = .returned (.string t) ∧ Below w.heap.size w w'
/-- The document's Encode of layer 2, of a code point alone. -/
theorem refEncode_one (b off c : Nat) (x : Int) (w : World) (hb : b < w.heap.size) (hc : w.cell? ⟨b, off, none⟩ = some (.int .i32 x)) :
    Calls Try.prog 24 #[.slice (some ⟨b, off, none⟩) 1 c] w (OneB x w) := by
  have hr : Runes w (some ⟨b, off, none⟩) [x] := by
    intro i y hy
    obtain ⟨rfl, rfl⟩ : i = 0 ∧ y = x := by
      cases i with
      | zero => simp at hy; exact ⟨rfl, hy.symm⟩
      | succ i => simp at hy
    exact ⟨_, _, rfl, hb, hc⟩
  refine (refEncode_any (some ⟨b, off, none⟩) [x] c w hr (by simp)).mono ?_
  rintro e w' ⟨t, ht, rfl, hb'⟩
  have h : t.data.toList = enc1 x := by rw [ht]; simp [enc]
  refine ⟨t, h, ?_, rfl, hb'⟩
  have h1 := congrArg List.length h
  have h2 := (enc1_pos x).2
  have h3 : t.data.toList.length = t.size := by simp
  omega
theorem figure_is (n : Nat) (x : Int) (w : World) (hx : x = (n : Int)) (h : n < 16) :
    Calls Try.prog 25 #[.int .u8 x] w fun e w' => e = .returned (.int .u8 ((fig n).toNat : Int)) ∧ w = w' := by
  subst hx
  exact (figure_any n w h).mono fun _ _ ⟨he, hw⟩ => ⟨he, hw.symm⟩
theorem cellsOf_tell (b : UInt8) : cellsOf (tell b) = [.int .u8 37, .int .u8 ((fig (b.toNat / 16)).toNat : Int), .int .u8 ((fig (b.toNat % 16)).toNat : Int)] := rfl
theorem take_snoc (t : List UInt8) (k : Nat) (h : k < t.length) : t.take (k + 1) = t.take k ++ [t[k]] := List.take_succ_eq_append_getElem h

set_option maxHeartbeats 2000000 in
set_option maxRecDepth 100000 in
theorem refPe_any (set : Int) (A : Option Addr) (l : List Int) (cap : Nat) (w : World) (h : Runes w A l) (hl : l.length ≤ 2000) (hcap : l.length ≤ cap) :
    Calls Try.prog 12 #[.int .i64 set, .slice A l.length cap] w (TextPost (pe set l) w) := by
  obtain ⟨i0, hi, hz0, hz1, hz2⟩ := info_parts Try.infoB
  have HI := Lib.hid (And.intro hi (And.intro hz0 (And.intro hz1 hz2)))
  have HRu := Lib.hid h
  clear hi hz0 hz1 hz2 h
  go_enter Try.func12, Try.ntmps12
  go_wp2
  go_loopw [5, 6] (fun v i wr => ∃ k : Nat, k ≤ l.length ∧ i = .int .i64 k ∧ MadeB w wr v (pe set (l.take k))) (fun _ i _ => l.length - (intOf i).toNat)
  case atStart => exact ⟨0, Nat.zero_le _, rfl, World.ownsRow_nil _ _ _ _, Below.refl _ _⟩
  case round =>
    obtain ⟨k, hk, rfl, hm⟩ := hrel
    have HM := Lib.hid hm
    have hlen : (pe set (l.take k)).length ≤ 24000 := by have := pe_length set (l.take k); simp at this; omega
    by_cases hlt : k < l.length
    · obtain ⟨b, off, rfl, _, hc⟩ := (HRu.out.below hm.2) k l[k] (List.getElem?_eq_getElem hlt)
      have HE := Lib.hid (pe_take set l k hlt)
      clear hm
      obtain ⟨x, hx⟩ : ∃ x, l[k] = x := ⟨_, rfl⟩
      rw [hx] at hc HE
      have HX := Lib.hid hx
      clear hx
      obtain ⟨a, ha⟩ : ∃ a, pe set (l.take k) = a := ⟨_, rfl⟩
      rw [ha] at HM hlen HE
      clear ha
      go_wp2_with (go_at_call 24; refine (refEncode_one b (off + k) (cap - k) x _ (by assumption) hc).mono ?_; rintro e w1 ⟨t, ht, ht4, rfl, hb1⟩; have HT := Lib.hid ht; have HM1 := Lib.hid (HM.out.carry hb1); clear ht hb1)
      have HC : Hid (∀ wx, Below w.heap.size w wx → wx.cell? ⟨b, off + k, none⟩ = some (.int .i32 x)) := by
        intro wx hwx
        obtain ⟨b', off', e', _, hc'⟩ := (HRu.out.below hwx) k l[k] (List.getElem?_eq_getElem hlt)
        cases e'
        rw [hc', HX.out]
      clear hc
      by_cases hin : inSet set x = true
      · have HN := Lib.hid hin
        have HP : Hid (pe1 set x = (enc1 x).flatMap tell) := by
          show pe1 set x = (enc1 x).flatMap tell
          unfold pe1; rw [if_pos hin]
        clear hin
        go_loopw [5, 8] (fun v i wx => ∃ j : Nat, j ≤ t.size ∧ i = .int .i64 j ∧ MadeB w wx v (a ++ (t.data.toList.take j).flatMap tell)) (fun _ i _ => t.size - (intOf i).toNat)
        case atStart => exact ⟨0, Nat.zero_le _, rfl, by simpa using HM1.out⟩
        case round =>
          obtain ⟨j, hj, rfl, hm3⟩ := hrel
          have HM3 := Lib.hid hm3
          clear hm3
          by_cases hjt : j < t.size
          · have hjl : j < t.data.toList.length := by simpa using hjt
            have HQ := Lib.hid (congrArg (a ++ ·) (tells_take t.data.toList j hjl))
            have hpl : (a ++ (t.data.toList.take j).flatMap tell).length ≤ 30000 := by rw [List.length_append, tells_length, List.length_take]; omega
            simp only [← List.append_assoc] at HQ
            obtain ⟨q, hq⟩ : ∃ q, a ++ (t.data.toList.take j).flatMap tell = q := ⟨_, rfl⟩
            rw [hq] at HM3 HQ hpl
            clear hq
            have hu := (t[j]'hjt).toNat_lt
            have hc := HC.out _ HM3.out.2
            go_wp2_with (go_at_call 10; refine (refIn_of _ HN.out).mono ?_; rintro e w' ⟨rfl, rfl⟩)
            have hz := HM3.out.2.size
            have hj0 : (0 : Int) ≤ (j : Int) := by omega
            have hj1 : (j : Int) < (t.size : Int) := by omega
            have hd : (((t[j]'hjt).toNat : Int).tdiv 16) = ((t[j]'hjt).toNat : Int) / 16 := Int.tdiv_eq_ediv_of_nonneg (by omega)
            have hm : (((t[j]'hjt).toNat : Int).tmod 16) = ((t[j]'hjt).toNat : Int) % 16 := Int.tmod_eq_emod_of_nonneg (by omega)
            have hq1 : IntKind.u8.wrap (((t[j]'hjt).toNat : Int) / 16) = ((t[j]'hjt).toNat : Int) / 16 := by simp [IntKind.wrap, IntKind.bits, IntKind.signed]; omega
            have hq2 : IntKind.u8.wrap (((t[j]'hjt).toNat : Int) % 16) = ((t[j]'hjt).toNat : Int) % 16 := by simp [IntKind.wrap, IntKind.bits, IntKind.signed]; omega
            go_region_held3 (fun _ => True) (trivial) (first
              | (refine step_append_lies _ (by rfl) (.tmp 33) (.tmp 44) 35 (by rfl) w.heap.size 5 i0 (.int .u8 0) 1 1 Try.underlying35 HI.out.1 HI.out.2.1 HI.out.2.2.1 HI.out.2.2.2 rfl (by decide) _ _ _ (by rfl) (HM3.out.1.alloc (.cells (cellsOf (tell (t[j]'hjt))).toArray 5)) ⟨wr.heap.size, 0, none⟩ 3 3 (cellsOf (tell (t[j]'hjt))) (by rfl) rfl (cells_new wr _ _) (cellsOf_one _) (by decide) (by simp only [maxLen]; omega) (by omega) (by simp; omega) (wr.heap.size + 1) (by simp) ?_
                 intro g cap w2 hown hgrow hat hlt)
              | (go_at_call 25; with_reducible refine (figure_is ((t[j]'hjt).toNat / 16) (((t[j]'hjt).toNat : Int) / 16) _ (by omega) (by omega)).mono ?_; rintro e w' ⟨rfl, rfl⟩)
              | (go_at_call 25; with_reducible refine (figure_is ((t[j]'hjt).toNat % 16) (((t[j]'hjt).toNat : Int) % 16) _ (by omega) (by omega)).mono ?_; rintro e w' ⟨rfl, rfl⟩))
            all_goals
              go_wp2
              go_roundw
              case rel => exact ⟨j + 1, by omega, by go_num, by rw [HQ.out]; exact HM3.out.push (t := tell (t[j]'hjt)) hown (grown_undrew hgrow)⟩
              case measure => simp [intOf]; omega
          · have HQ : Hid (a ++ (t.data.toList.take j).flatMap tell = a ++ pe1 set x) := by
              show a ++ (t.data.toList.take j).flatMap tell = a ++ pe1 set x
              rw [List.take_of_length_le (by simp; omega), HP.out, HT.out]
            go_wp2
            go_roundw
            case rel => exact ⟨k + 1, by omega, by go_num, by rw [HE.out, ← HQ.out]; exact HM3.out⟩
            case measure => simp [intOf]; omega
      · have HN := Lib.hid (Bool.eq_false_iff.2 hin)
        have HP : Hid (pe1 set x = enc1 x) := by
          show pe1 set x = enc1 x
          unfold pe1; rw [if_neg hin]
        clear hin
        go_loopw [5, 8] (fun v i wx => ∃ j : Nat, j ≤ t.size ∧ i = .int .i64 j ∧ MadeB w wx v (a ++ t.data.toList.take j)) (fun _ i _ => t.size - (intOf i).toNat)
        case atStart => exact ⟨0, Nat.zero_le _, rfl, by simpa using HM1.out⟩
        case round =>
          obtain ⟨j, hj, rfl, hm3⟩ := hrel
          have HM3 := Lib.hid hm3
          clear hm3
          by_cases hjt : j < t.size
          · have hjl : j < t.data.toList.length := by simpa using hjt
            have HQ := Lib.hid (congrArg (a ++ ·) (take_snoc t.data.toList j hjl))
            have hpl : (a ++ t.data.toList.take j).length ≤ 30000 := by rw [List.length_append, List.length_take]; omega
            simp only [← List.append_assoc] at HQ
            obtain ⟨q, hq⟩ : ∃ q, a ++ t.data.toList.take j = q := ⟨_, rfl⟩
            rw [hq] at HM3 HQ hpl
            clear hq
            have hu := (t[j]'hjt).toNat_lt
            have hc := HC.out _ HM3.out.2
            go_wp2_with (first
              | (go_at_call 10; refine (refIn_of _ HN.out).mono ?_; rintro e w' ⟨rfl, rfl⟩)
              | (at_builtin
                 refine wpList_append_own _ rfl (.tmp 46) (.tmp 50) 35 rfl w.heap.size 5 i0 _ 1 1 Try.underlying35 HI.out.1 HI.out.2.1 HI.out.2.2.1 HI.out.2.2.2 rfl (by decide) _ _ _ rfl (HM3.out.1.alloc _) ⟨_, 0, none⟩ 1 1 (cellsOf [t[j]'hjt]) rfl rfl (cell_one_new _ _ _) (cellsOf_one _) ?ha ?hb ?hc ?_
                 case ha => simp only [maxLen]; omega
                 case hb => omega
                 case hc => have := HM3.out.2.size; simp; omega
                 intro v' w2 hown' hgrow _))
            go_roundw
            case rel => exact ⟨j + 1, by omega, by go_num, by rw [HQ.out]; exact HM3.out.push hown' hgrow⟩
            case measure => simp [intOf]; omega
          · have HQ : Hid (a ++ t.data.toList.take j = a ++ pe1 set x) := by
              show a ++ t.data.toList.take j = a ++ pe1 set x
              rw [List.take_of_length_le (by simp; omega), HP.out, HT.out]
            go_wp2
            go_roundw
            case rel => exact ⟨k + 1, by omega, by go_num, by rw [HE.out, ← HQ.out]; exact HM3.out⟩
            case measure => simp [intOf]; omega
    · have HE : Hid (pe set (l.take k) = pe set l) := by
        show pe set (l.take k) = pe set l
        rw [List.take_of_length_le (by omega)]
      have hcv := convert_bytes hm
      go_wp2
      go_ret
      exact ⟨by rw [HE.out]; rfl, hm.2⟩
end Go.Proofs.Ytlekbkmcjpnifaa

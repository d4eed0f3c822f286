/-
  The document's Decode and Valid of layer 2, by their contracts.
-/
import Derived.Test.YtlekbkmcjpnifaaRef2
namespace Go.Proofs.Ytlekbkmcjpnifaa
open Go.RowKit

theorem one_beg_whole {s : ByteArray} {k b : Nat} (h : k < s.size) (hb : begOf s k h = b) (h0 : 0 < b) (hn : b = lensOf s[k].toNat) :
    one (s.data.toList.drop k) = (acc (headBits s[k].toNat b) ((s.data.toList.drop (k + 1)).take (b - 1)), b, true) := by
  unfold begOf at hb
  rw [if_neg (by omega)] at hb
  rw [drop_byte s k h]
  simp only [one]
  rw [if_pos (by omega), ← hn]
theorem one_beg_part {s : ByteArray} {k b : Nat} (h : k < s.size) (hb : begOf s k h = b) (hn : b = 0 ∨ b ≠ lensOf s[k].toNat) :
    one (s.data.toList.drop k) = (65533, max b 1, false) := by
  unfold begOf at hb
  rw [drop_byte s k h]
  simp only [one]
  by_cases e : lensOf s[k].toNat = 0
  · rw [if_pos e] at hb
    rw [e, ext_full _ _ _ _ (by omega), if_neg (by omega), ← hb]
    rfl
  · rw [if_neg e] at hb
    have hg := ext_ge s[k].toNat (lensOf s[k].toNat) (s.data.toList.drop (k + 1)) 1
    rw [if_neg (by omega), hb, Nat.max_eq_left (by omega)]
theorem beg_le {s : ByteArray} {k : Nat} (h : k < s.size) : begOf s k h ≤ 4 ∧ k + begOf s k h ≤ s.size := by
  unfold begOf
  have h1 := ext_le s[k].toNat (lensOf s[k].toNat) (s.data.toList.drop (k + 1)) 1
  have h2 := ext_le_n s[k].toNat (lensOf s[k].toNat) (s.data.toList.drop (k + 1)) 1
  have h3 := lensOf_le s[k].toNat
  simp at h1
  split <;> omega

theorem part_list (s : ByteArray) (k b : Nat) : (s.extract k (k + b)).data.toList = (s.data.toList.drop k).take b := by
  simp only [ByteArray.data_extract, Array.toList_extract, List.extract_eq_take_drop]
  congr 1; omega
theorem part_size (s : ByteArray) (k b : Nat) (h : k + b ≤ s.size) : (s.extract k (k + b)).size = b := by
  simp; omega

def ValPost (v : Int) (w : World) (e : Ending) (w' : World) : Prop := e = .returned (.int .i32 v) ∧ Below w.heap.size w w'
theorem value_part (s : ByteArray) (k b : Nat) (w : World) (hk : k < s.size) (h : k + b ≤ s.size) (h0 : 0 < b) (h4 : b ≤ 4) :
    Calls Try.prog 31 #[.string (s.extract k (k + b))] w (ValPost (acc (headBits s[k].toNat b) ((s.data.toList.drop (k + 1)).take (b - 1))) w) := by
  have hsz := part_size s k b h
  refine (value_any (s.extract k (k + b)) w (by omega) (by omega)).mono fun e w' ⟨he, hw⟩ => ⟨?_, hw⟩
  rw [he]
  have e1 := part_list s k b
  have e2 := drop_byte (s.extract k (k + b)) 0 (by omega)
  rw [List.drop_zero, e1, drop_byte s k hk] at e2
  obtain ⟨b', rfl⟩ : ∃ b', b = b' + 1 := ⟨b - 1, by omega⟩
  rw [List.take_succ_cons] at e2
  simp only [List.cons.injEq] at e2
  simp only [hsz, ← e2.1, Nat.add_sub_cancel]
  rw [e1, drop_byte s k hk, List.take_succ_cons]
  rfl

set_option maxHeartbeats 1000000 in
set_option maxRecDepth 100000 in
theorem refDecode_any (s : ByteArray) (w : World) (h1 : s.size ≤ 2000) :
    Calls Try.prog 16 #[.string s] w (MadePost w (dec s.data.toList)) := by
  obtain ⟨i0, hi, hz0, hz1, hz2⟩ := info_parts Try.infoR
  have HI := Lib.hid (And.intro hi (And.intro hz0 (And.intro hz1 hz2)))
  clear hi hz0 hz1 hz2
  go_enter Try.func16, Try.ntmps16
  go_wp2
  go_loopw [3, 4] (fun v i wr => ∃ k : Nat, k ≤ s.size ∧ i = .int .i64 k ∧ DecRel w s k v wr) (fun _ i _ => s.size - (intOf i).toNat)
  case atStart => exact ⟨0, Nat.zero_le _, rfl, [], by simp, Nat.le_refl _, World.ownsRow_nil _ _ _ _, Below.refl _ _⟩
  case round =>
    obtain ⟨k, hk, rfl, l, hd, hl, hm⟩ := hrel
    have HD := Lib.hid hd
    have HM := Lib.hid hm
    clear hd hm
    by_cases hlt : k < s.size
    · have hne : s.data.toList.drop k ≠ [] := by intro e; have := congrArg List.length e; simp at this; omega
      have HS := Lib.hid (dec_step hne)
      clear hne
      have hu := s[k].toNat_lt
      obtain ⟨b, hb⟩ : ∃ b, begOf s k hlt = b := ⟨_, rfl⟩
      have hbl := beg_le hlt
      rw [hb] at hbl
      obtain ⟨b4, bs⟩ := hbl
      have HB := Lib.hid hb
      clear hb
      obtain ⟨n, hn⟩ : ∃ n, lensOf s[k].toNat = n := ⟨_, rfl⟩
      have HN := Lib.hid hn
      clear hn
      by_cases hw : 0 < b ∧ b = n
      · obtain ⟨b0, bn⟩ := hw
        have HO := Lib.hid (one_beg_whole hlt HB.out b0 (bn.trans HN.out.symm))
        obtain ⟨c, hc⟩ : ∃ c, acc (headBits s[k].toNat b) ((s.data.toList.drop (k + 1)).take (b - 1)) = c := ⟨_, rfl⟩
        have HC := Lib.hid hc
        clear hc
        have hen : ((b : Int) == (n : Int)) = true := by rw [beq_iff_eq]; omega
        have hen' : (b == n) = true := by rw [beq_iff_eq]; omega
        have b0' : 0 < (b : Int) := by omega
        clear bn
        go_wp2_with (first
          | (go_at_call 29; refine (begin_any _ _ _ hlt h1).mono ?_; rintro e w1 ⟨rfl, hb1⟩; rw [HB.out])
          | (go_at_call 30; refine (many_any _ _).mono ?_; rintro e w' ⟨rfl, rfl⟩; rw [HN.out])
          | (go_at_call 31; refine (value_part _ _ _ _ hlt bs b0 b4).mono ?_; rintro e w2 ⟨rfl, hb2⟩; rw [HC.out]; have HM2 := Lib.hid ((HM.out.carry hb1).carry hb2))
          | (at_builtin
             refine wpList_append_own _ rfl (.tmp 23) (.tmp 31) 25 rfl w.heap.size 21 i0 _ 1 4 Try.underlying25 HI.out.1 HI.out.2.1 HI.out.2.2.1 HI.out.2.2.2 rfl (by decide) _ _ _ rfl (HM2.out.1.alloc _) ⟨w2.heap.size, 0, none⟩ 1 1 [.int .i32 c] rfl rfl (cell_one_new _ _ _) (by simp [Value.oneCell']) ?ha ?hb ?hc ?_
             case ha => simp only [maxLen]; omega
             case hb => omega
             case hc => have := HM2.out.2.size; simp; omega
             intro v' w3 hown' hgrow _))
        go_roundw
        case rel =>
          refine ⟨k + b, bs, by go_num, l ++ [c], ?_, by simp; omega, HM2.out.push hown' hgrow⟩
          rw [HD.out, HS.out, HO.out, HC.out]
          simp [List.drop_drop]
        case measure => simp [intOf]; omega
      · have HO := Lib.hid (one_beg_part hlt HB.out (by have := HN.out; omega))
        by_cases b0 : b = 0
        · subst b0
          clear hw
          go_wp2_with (first
            | (go_at_call 29; refine (begin_any _ _ _ hlt h1).mono ?_; rintro e w1 ⟨rfl, hb1⟩; rw [HB.out]; have HM2 := Lib.hid (HM.out.carry hb1))
            | (at_builtin
               refine wpList_append_own _ rfl (.tmp 33) (.tmp 34) 25 rfl w.heap.size 21 i0 _ 1 4 Try.underlying25 HI.out.1 HI.out.2.1 HI.out.2.2.1 HI.out.2.2.2 rfl (by decide) _ _ _ rfl (HM2.out.1.alloc _) ⟨w1.heap.size, 0, none⟩ 1 1 [.int .i32 65533] rfl rfl (cell_one_new _ _ _) (by simp [Value.oneCell']) ?ha ?hb ?hc ?_
               case ha => simp only [maxLen]; omega
               case hb => omega
               case hc => have := HM2.out.2.size; simp; omega
               intro v' w3 hown' hgrow _))
          go_roundw
          case rel =>
            refine ⟨k + 1, by omega, by go_num, l ++ [65533], ?_, by simp; omega, HM2.out.push hown' hgrow⟩
            rw [HD.out, HS.out, HO.out]
            simp [List.drop_drop]
          case measure => simp [intOf]; omega
        · have hen : ((b : Int) == (n : Int)) = false := by rw [beq_eq_false_iff_ne]; omega
          have hen' : (b == n) = false := by rw [beq_eq_false_iff_ne]; omega
          have b0' : 0 < (b : Int) := by omega
          have hmx : max b 1 = b := by omega
          rw [hmx] at HO
          clear hw hmx
          go_wp2_with (first
            | (go_at_call 29; refine (begin_any _ _ _ hlt h1).mono ?_; rintro e w1 ⟨rfl, hb1⟩; rw [HB.out]; have HM2 := Lib.hid (HM.out.carry hb1))
            | (go_at_call 30; refine (many_any _ _).mono ?_; rintro e w' ⟨rfl, rfl⟩; rw [HN.out])
            | (at_builtin
               refine wpList_append_own _ rfl (.tmp 33) (.tmp 34) 25 rfl w.heap.size 21 i0 _ 1 4 Try.underlying25 HI.out.1 HI.out.2.1 HI.out.2.2.1 HI.out.2.2.2 rfl (by decide) _ _ _ rfl (HM2.out.1.alloc _) ⟨w1.heap.size, 0, none⟩ 1 1 [.int .i32 65533] rfl rfl (cell_one_new _ _ _) (by simp [Value.oneCell']) ?ha ?hb ?hc ?_
               case ha => simp only [maxLen]; omega
               case hb => omega
               case hc => have := HM2.out.2.size; simp; omega
               intro v' w3 hown' hgrow _))
          go_roundw
          case rel =>
            refine ⟨k + b, by omega, by go_num, l ++ [65533], ?_, by simp; omega, HM2.out.push hown' hgrow⟩
            rw [HD.out, HS.out, HO.out]
            simp [List.drop_drop]
          case measure => simp [intOf]; omega
    · have e : k = s.size := by omega
      have HE : Hid (l = dec s.data.toList) := by
        show l = dec s.data.toList
        rw [HD.out, drop_end s k (by omega), dec_nil, List.append_nil]
      go_wp2
      go_ret
      exact ⟨_, rfl, HE.out ▸ HM.out⟩

theorem enc_dec_eq (s t : ByteArray) (ht : t.data.toList = enc (dec s.data.toList)) : (t.toList == s.toList) = vld s.data.toList := by
  rw [ByteArray.toList_eq, ByteArray.toList_eq, ht, vld_eq]
  rw [Bool.eq_iff_iff]; simp

end Go.Proofs.Ytlekbkmcjpnifaa

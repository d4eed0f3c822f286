/-
  isASCII, the last hyphen, and what is thrown off.
-/
import Derived.Test.YtmnpefpglpabmaaQFind
import Derived.Test.YtmnpefpglpabmaaNRefDec
import Derived.Test.YtmnpefpglpabmaaNCon
import Derived.Lib.OthersKept
import Derived.Lib.TrimU
import Derived.Laws.IdiomStrings
namespace Go.Proofs.Ytmnpefpglpabmaa
open Go.RowKit

/-- All bytes are below 128. -/
def ascB (s : ByteArray) : Bool := !(s.data.toList.any fun b => decide (128 ≤ b.toNat))
theorem dec_low (s : ByteArray) (p : Nat) (h : p < s.size) (hb : (s[p]'h).toNat < 128) : Utf8.decode s p = ((s[p]'h).toNat, 1) := by
  rw [Lib.decode_at]
  have e : s.get! p = s[p]'h := getElem!_pos s.data p h
  rw [e]
  unfold Lib.decodeN
  rw [if_pos hb]
theorem dec_high (s : ByteArray) (p : Nat) (h : p < s.size) (hb : ¬ (s[p]'h).toNat < 128) : 128 ≤ (Utf8.decode s p).1 := by
  rw [Lib.decode_at]
  have e : s.get! p = s[p]'h := getElem!_pos s.data p h
  rw [e]
  unfold Lib.decodeN
  rw [if_neg hb]
  repeat' split
  all_goals (simp only; omega)
theorem asc_no {s : ByteArray} {p : Nat} (h : p < s.size) (hb : ¬ (s[p]'h).toNat < 128) : ascB s = false := by
  unfold ascB
  rw [Bool.not_eq_false', List.any_eq_true]
  exact ⟨s[p]'h, Array.getElem_mem_toList (xs := s.data) h, decide_eq_true (by omega)⟩
theorem asc_yes {s : ByteArray} (h : ∀ b ∈ s.data.toList.take s.size, b.toNat < 128) : ascB s = true := by
  unfold ascB
  rw [Bool.not_eq_true', List.any_eq_false]
  intro b hb
  have := h b (by rw [List.take_of_length_le (by simp)]; exact hb)
  simp; omega

set_option maxHeartbeats 1000000 in
set_option maxRecDepth 100000 in
theorem q42_any (c : Nat) (w : World) (hc : c ≤ 1114111) :
    Calls Try.prog 42 #[.int .i32 (c : Int)] w fun e w' => e = .returned (.bool (decide (128 ≤ c))) ∧ w = w' := by
  go_enter Try.func42, Try.ntmps42
  go_wp2
  go_ret
  refine ⟨ret_bool ?_, rfl⟩
  rw [Bool.eq_iff_iff]
  simp
  try omega

set_option maxHeartbeats 1000000 in
set_option maxRecDepth 100000 in
theorem qidx_any (s : ByteArray) (w : World) (hs : s.size ≤ 1000000) :
    Calls Try.prog 49 #[.string s, .func (.func 42) #[] #[], .bool true] w fun e w' => ∃ r : Int, e = .returned (.int .i64 r) ∧ decide (r < 0) = ascB s ∧ Below w.heap.size w w' := by
  go_enter Try.func49, Try.ntmps49
  go_wp2
  go_loopg [] s.size (fun gf wx => ∃ pos : Nat, wx.heap[w.heap.size]? = some (.stringIter s pos) ∧ Below w.heap.size w wx ∧ pos ≤ s.size ∧ (∀ b ∈ s.data.toList.take pos, b.toNat < 128) ∧ s.size ≤ pos + gf)
  case atStart => exact ⟨0, World.iter_heap w s 0, (Below.refl _ w).alloc (Nat.le_refl _) _, by omega, by simp, by omega⟩
  case round =>
    obtain ⟨pos, hit, hbw, hps0, hall, hfu⟩ := hrel
    have HA := Lib.hid hall
    clear hall
    by_cases hps : pos < s.size
    · obtain ⟨g', rfl⟩ : ∃ g', gk = g' + 1 := ⟨gk - 1, by omega⟩
      have hnx : ∀ ty, (Instr.next (.pointer (some ⟨w.heap.size, 0, none⟩)) true ty).run Try.prog wr = _ := fun ty => Lib.run_next_any_at wr w.heap.size s pos ty hit hps
      have hwd := Lib.width_pos s pos
      have hrl := Lib.rune_le s pos
      have hdl : (s[pos]'hps).toNat < 128 → (Utf8.decode s pos).2 = 1 ∧ (Utf8.decode s pos).1 < 128 := fun hb => by rw [dec_low s pos hps hb]; exact ⟨rfl, hb⟩
      have hdh := fun hb => dec_high s pos hps hb
      obtain ⟨R, hR⟩ : ∃ R, (Utf8.decode s pos).1 = R := ⟨_, rfl⟩
      obtain ⟨K, hK⟩ : ∃ K, (Utf8.decode s pos).2 = K := ⟨_, rfl⟩
      rw [hR, hK] at hnx hdl
      rw [hK] at hwd
      rw [hR] at hrl hdh
      have hit2 := Lib.iterAt_heap wr w.heap.size s pos (pos + K) hit
      have hbw2 := Lib.below_iterAt hbw (k := w.heap.size) (Nat.le_refl _) s (pos + K)
      obtain ⟨W, hWd⟩ : ∃ W, wr.iterAt w.heap.size s (pos + K) = W := ⟨_, rfl⟩
      rw [hWd] at hnx hit2 hbw2
      clear hR hK hWd hit hbw
      have HB := Lib.hid (And.intro hit2 hbw2)
      clear hit2 hbw2
      have cS := q42_any R W hrl
      by_cases hb : (s[pos]'hps).toNat < 128
      · obtain ⟨rfl, hR8⟩ := hdl hb
        rw [decide_eq_false (show ¬ 128 ≤ R by omega)] at cS
        have HN : Hid (∀ b ∈ s.data.toList.take (pos + 1), b.toNat < 128) := take_snoc (p := fun b : UInt8 => b.toNat < 128) (by simpa using hps) HA.out hb
        clear hdl hdh
        go_wp2_with (go_at_call 42; refine cS.mono ?_; rintro e W' ⟨rfl, rfl⟩)
        go_roundg g'
        case measure => omega
        case rel => exact ⟨pos + 1, HB.out.1, HB.out.2, by omega, HN.out, by omega⟩
      · have hR8 := hdh hb
        rw [decide_eq_true hR8] at cS
        have HN := Lib.hid (asc_no hps hb)
        clear hdl hdh
        go_wp2_with (go_at_call 42; refine cS.mono ?_; rintro e W' ⟨rfl, rfl⟩)
        go_ret
        exact ⟨_, rfl, by rw [HN.out]; exact decide_eq_false (by omega), HB.out.2⟩
    · have hnx : ∀ ty, (Instr.next (.pointer (some ⟨w.heap.size, 0, none⟩)) true ty).run Try.prog wr = _ := fun ty => Lib.run_next_end_at wr w.heap.size s pos ty hit hps
      have HN : Hid (ascB s = true) := asc_yes (by obtain rfl : pos = s.size := by omega
                                                   exact HA.out)
      go_wp2
      go_ret
      exact ⟨_, rfl, by rw [HN.out]; rfl, hbw⟩
theorem qidx2_any (s : ByteArray) (w : World) (hs : s.size ≤ 1000000) :
    Calls Try.prog 41 #[.string s, .func (.func 42) #[] #[]] w fun e w' => ∃ r : Int, e = .returned (.int .i64 r) ∧ decide (r < 0) = ascB s ∧ Below w.heap.size w w' := by
  have HC := qidx_any s w hs
  go_enter Try.func41, Try.ntmps41
  go_wp2_with (go_at_call 49; refine HC.mono ?_; rintro e w' ⟨r, rfl, hr, hb⟩; have HR := Lib.hid hr; clear hr)
  go_ret
  exact ⟨_, rfl, HR.out, hb⟩
theorem qasc_any (s : ByteArray) (w : World) (hs : s.size ≤ 1000000) :
    Calls Try.prog 28 #[.string s] w fun e w' => e = .returned (.bool (ascB s)) ∧ Below w.heap.size w w' := by
  have HC := qidx2_any s w hs
  go_enter Try.func28, Try.ntmps28
  go_wp2_with (go_at_call 41; refine HC.mono ?_; rintro e w' ⟨r, rfl, hr, hb⟩; have HR := Lib.hid hr; clear hr)
  go_ret
  exact ⟨ret_bool HR.out, hb⟩

set_option maxHeartbeats 400000 in
theorem qlast_any (s : ByteArray) (w : World) (hs : s.size ≤ 1000000) :
    Calls Try.prog 50 #[.string s, .int .u8 45] w fun e w' => e = .returned (.int .i64 (hyph s.data.toList)) ∧ w = w' := by
  go_enter Try.func50, Try.ntmps50
  go_wp2
  go_loopw [5] (fun a wr => ∃ k : Nat, k ≤ s.size ∧ a = .int .i64 ((k : Int) - 1) ∧ wr = w ∧ (45 : UInt8) ∉ s.data.toList.drop k) (fun a _ => (intOf a + 1).toNat)
  case atStart => exact ⟨s.size, Nat.le_refl _, rfl, rfl, by rw [List.drop_eq_nil_of_le (by simp)]; simp⟩
  case round =>
    obtain ⟨k, hk, rfl, rfl, hm⟩ := hrel
    have HM := Lib.hid hm
    clear hm
    cases k with
    | zero =>
      have HE := Lib.hid (hyph_none (s := s.data.toList) (by simpa using HM.out))
      go_wp2
      go_ret
      exact ⟨ret_int (by rw [HE.out]), rfl⟩
    | succ k =>
      have hlt : k < s.size := by omega
      have hkk : (((k + 1 : Nat) : Int) - 1) = (k : Int) := by omega
      rw [hkk]
      clear hkk
      have hu := (s[k]'hlt).toNat_lt
      by_cases h : s[k]'hlt = 45
      · have he : (((s[k]'hlt).toNat : Int) == 45) = true := by rw [h]; rfl
        have HE : Hid (hyph s.data.toList = (k : Int)) := by
          have hsp : s.data.toList = s.data.toList.take k ++ 45 :: s.data.toList.drop (k + 1) := by
            rw [← h, ← drop_cons s k hlt, List.take_append_drop]
          show hyph s.data.toList = (k : Int)
          rw [hsp, hyph_at HM.out]
          simp
          omega
        clear h
        go_wp2
        go_ret
        exact ⟨ret_int (by rw [HE.out]), rfl⟩
      · have he : (((s[k]'hlt).toNat : Int) == 45) = false := by
          rw [Bool.eq_false_iff]
          exact fun e => h ((byte_eq (n := 45) (by omega)).1 e)
        have HE : Hid ((45 : UInt8) ∉ s.data.toList.drop k) := by
          show (45 : UInt8) ∉ s.data.toList.drop k
          rw [drop_cons s k hlt]
          simp only [List.mem_cons, not_or]
          exact ⟨fun e => h e.symm, HM.out⟩
        clear h
        go_wp2
        go_roundw
        case rel => exact ⟨k, by omega, by go_num, by first | rfl | trivial, HE.out⟩
        case measure => simp [intOf]
theorem qlast2_any (s : ByteArray) (w : World) (hs : s.size ≤ 1000000) :
    Calls Try.prog 43 #[.string s, .int .u8 45] w fun e w' => e = .returned (.int .i64 (hyph s.data.toList)) ∧ w = w' := by
  have HC := qlast_any s w hs
  go_enter Try.func43, Try.ntmps43
  go_wp2_with (go_at_call 50; refine HC.mono ?_; rintro e w' ⟨rfl, rfl⟩)
  go_ret
  exact ⟨rfl, rfl⟩

/-- What is thrown off. -/
theorem qoff_any (w : World) : Calls Try.prog 27 #[] w fun e w' => e = .returned (.tuple #[.slice none 0 0, .iface 70 (.pointer (some ⟨w.heap.size, 0, none⟩))]) ∧ Chain w' [⟨#[112, 117, 110, 121]⟩] (some 2) (.iface 70 (.pointer (some ⟨w.heap.size, 0, none⟩))) ∧ Below w.heap.size w w' := by
  go_enter Try.func27, Try.ntmps27
  go_wp2_with (go_at_call 16; refine (wrap_held _ _ _ _).mono ?_; rintro e w' ⟨rfl, rfl⟩)
  go_ret2
  exact ⟨rfl, Chain.lay (w := w) (cs := []) (o := some 2) ⟨#[112, 117, 110, 121]⟩ rfl, (Below.refl _ _).alloc (Nat.le_refl _) _⟩

set_option maxHeartbeats 1000000 in
set_option maxRecDepth 100000 in
theorem qsplit_none (s : ByteArray) (w : World) (hs : s.size ≤ 1000000) (h : ¬ 0 < hyph s.data.toList) :
    Calls Try.prog 29 #[.string s] w fun e w' => e = .returned (.tuple #[.slice none 0 0, .string s]) ∧ w = w' := by
  obtain ⟨y, hy⟩ : ∃ y, hyph s.data.toList = y := ⟨_, rfl⟩
  rw [hy] at h
  have HY := Lib.hid hy
  clear hy
  go_enter Try.func29, Try.ntmps29
  go_wp2_with (go_at_call 43; refine (qlast2_any _ _ hs).mono ?_; rintro e w' ⟨rfl, rfl⟩; rw [HY.out])
  go_ret2
  exact ⟨rfl, rfl⟩
theorem runesFrom_low (t : ByteArray) (ht : ∀ b ∈ t.data.toList, b.toNat < 128) : ∀ (bound i : Nat) (acc : Array Value), i + bound = t.size → Conv.runesFrom t bound i acc = acc ++ ((t.data.toList.drop i).map fun b : UInt8 => Value.int .i32 (b.toNat : Int)).toArray := by
  intro bound
  induction bound with
  | zero =>
    intro i acc h
    rw [List.drop_eq_nil_of_le (by simp; omega)]
    simp [Conv.runesFrom]
  | succ bound ih =>
    intro i acc h
    have hi : i < t.size := by omega
    unfold Conv.runesFrom
    rw [if_pos hi, dec_low t i hi (ht _ (Array.getElem_mem_toList (xs := t.data) hi))]
    show Conv.runesFrom t bound (i + 1) _ = _
    rw [ih (i + 1) _ (by omega), drop_cons t i hi]
    simp
theorem conv_made (t : ByteArray) (ht : ∀ b ∈ t.data.toList, b.toNat < 128) (hs : t.size ≤ 100000) (w : World) : ∃ v W2, (convert 9 22 (.string t)).run Try.prog w.drew = .ok v W2 ∧ Made w W2 v (ints (t.data.toList.map UInt8.toNat)) := by
  have e := runesFrom_low t ht t.size 0 #[] (by omega)
  have el : (Conv.runesFrom t t.size 0 #[]).size = t.size := by rw [e]; simp
  have hr := run_runes_of_string (P := Try.prog) w.drew 9 22 21 t Try.underlying9 Try.underlying22 Try.underlying21 (by rw [el]; omega)
  have hg := grownCap_ge w.drew (Conv.runesFrom t t.size 0 #[]).size 0 21
  have hm := grownCap_le_maxLen w.drew (Conv.runesFrom t t.size 0 #[]).size 0 21 (by rw [el]; unfold maxLen; omega)
  rw [el] at hr hg hm
  have hil : (ints (t.data.toList.map UInt8.toNat)).length = t.size := by rw [ints_length, List.length_map]; simp
  refine ⟨_, _, hr, ⟨by simp, .inr ⟨w.heap.size, _, _, ?_, Nat.le_refl _, heap_alloc_new _ _, by rw [hil]; exact hg, hm, ?_, ?_⟩⟩, ?_⟩
  · rw [hil]
    rfl
  · simp [el]; omega
  · rw [e]
    simp [ints]
  · exact ((below_drewN (Below.refl _ _) 2).alloc (Nat.le_refl _) _)

set_option maxHeartbeats 1000000 in
set_option maxRecDepth 100000 in
theorem qsplit_some (s : ByteArray) (w : World) (hs : s.size ≤ 1000) (h : 0 < hyph s.data.toList) (ha : ascB s = true) :
    Calls Try.prog 29 #[.string s] w fun e w' => ∃ v, e = .returned (.tuple #[v, .string ⟨(s.data.toList.drop ((hyph s.data.toList).toNat + 1)).toArray⟩]) ∧ Made w w' v (ints ((s.data.toList.take (hyph s.data.toList).toNat).map UInt8.toNat)) := by
  obtain ⟨y, hy⟩ : ∃ y : Nat, hyph s.data.toList = (y : Int) := ⟨(hyph s.data.toList).toNat, by omega⟩
  have hyl : y < s.size := by
    rcases hyph_lt s.data.toList with h1 | h1
    · have := h1.2; simp at this; omega
    · omega
  rw [hy] at h ⊢
  have HY := Lib.hid hy
  clear hy
  go_enter Try.func29, Try.ntmps29
  go_wp2_with (go_at_call 43; refine (qlast2_any _ _ (by omega)).mono ?_; rintro e w' ⟨rfl, rfl⟩; rw [HY.out])
  have hyi : (y : Int) ≤ (s.size : Int) := by omega
  have hyj : (y : Int) + 1 ≤ (s.size : Int) := by omega
  have htl : (s.extract 0 y).data.toList = s.data.toList.take y := by
    simp only [ByteArray.data_extract, Array.toList_extract, List.extract_eq_take_drop]
    simp
  obtain ⟨v, W2, hconv, hmade⟩ := conv_made (s.extract 0 y) (fun b hb => by
    rw [htl] at hb
    unfold ascB at ha
    rw [Bool.not_eq_true', List.any_eq_false] at ha
    have := ha b (List.mem_of_mem_take hb)
    simpa using this) (by simp; omega) w
  rw [htl] at hmade
  have HM := Lib.hid hmade
  clear hmade htl ha
  go_region
  all_goals
    go_wp2
    go_ret2
    refine ⟨_, ?_, HM.out⟩
    rw [show ((y : Nat) : Int).toNat = y by omega, ← extract_list]
    rfl
end Go.Proofs.Ytmnpefpglpabmaa

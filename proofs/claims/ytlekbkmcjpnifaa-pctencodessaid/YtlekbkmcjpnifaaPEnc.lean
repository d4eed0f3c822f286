/-
  pct.Encode and what it calls, by their contracts.
-/
import Derived.Test.YtlekbkmcjpnifaaPDec
import Derived.Test.YtlekbkmcjpnifaaPIn
namespace Go.Proofs.Ytlekbkmcjpnifaa
open Go.RowKit

/-- Encode's worlds: its builder. -/
def EncW (w : World) (l : List UInt8) (wr : World) : Prop := Bld w.heap.size w.heap.size l wr ∧ Below w.heap.size w wr
theorem EncW.new (w : World) : EncW w [] (w.alloc (.cells #[.pointer none, .slice none 0 0] 37)) :=
  ⟨Lib.fresh_isBuilder 37 5 w, (Below.refl _ _).alloc (Nat.le_refl _) _⟩
theorem EncW.carry {w wr w' : World} {l : List UInt8} (h : EncW w l wr) (hb : Below wr.heap.size wr w') : EncW w l w' :=
  ⟨h.1.below hb, h.2.trans (hb.mono h.2.size)⟩
theorem EncW.byte {w wr : World} {l : List UInt8} (h : EncW w l wr) (c : UInt8) (x : Int) (hx : x = (c.toNat : Int)) (hl : l.length ≤ 100000) :
    Calls Try.prog 21 #[.pointer (some ⟨w.heap.size, 0, none⟩), .int .u8 x] wr fun e w' => e = .returned .nilIface ∧ EncW w (l ++ [c]) w' := by
  refine (bld_byte _ _ l c x wr h.1 hx (by omega) h.2.size).mono ?_
  rintro e w' ⟨rfl, h1, h2⟩
  exact ⟨rfl, h1, h.2.trans h2⟩
theorem EncW.text {w wr : World} {l : List UInt8} (h : EncW w l wr) (s : ByteArray) (hl : l.length ≤ 100000) (hs : s.size ≤ 1000) :
    Calls Try.prog 22 #[.pointer (some ⟨w.heap.size, 0, none⟩), .string s] wr fun e w' => e = .returned (.tuple #[.int .i64 s.size, .nilIface]) ∧ EncW w (l ++ s.data.toList) w' := by
  refine (bld_text _ _ l s wr h.1 (by omega) h.2.size).mono ?_
  rintro e w' ⟨rfl, h1, h2⟩
  exact ⟨rfl, h1, h.2.trans h2⟩
theorem EncW.done {w wr : World} {l : List UInt8} (h : EncW w l wr) :
    Calls Try.prog 23 #[.pointer (some ⟨w.heap.size, 0, none⟩)] wr (TextPost l w) := by
  refine (bld_done _ _ l wr h.1 h.2.size).mono ?_
  rintro e w' ⟨rfl, h2⟩
  exact ⟨rfl, h.2.trans h2⟩

theorem hex_fin : ∀ n : Fin 16, (({ data := #[48, 49, 50, 51, 52, 53, 54, 55, 56, 57, 65, 66, 67, 68, 69, 70] } : ByteArray)[n.val]'n.isLt) = fig n.val := by decide +kernel

set_option maxHeartbeats 400000 in
/-- The closure of Encode: a figure written. -/
theorem encFig_any {w wr : World} {l : List UInt8} (h : EncW w l wr) (n : Nat) (x : Int) (hx : x = (n : Int)) (hn : n < 16) (hl : l.length ≤ 100000) :
    Calls Try.prog 20 #[.int .u8 x, .pointer (some ⟨w.heap.size, 0, none⟩)] wr fun e w' => e = .returned (.tuple #[]) ∧ EncW w (l ++ [fig n]) w' := by
  subst hx
  have HW := Lib.hid h
  clear h
  go_enter Try.func20, Try.ntmps20
  go_wp2_with (go_at_call 21; refine (HW.out.byte (fig n) _ (congrArg (fun b : UInt8 => (b.toNat : Int)) (hex_fin ⟨n, hn⟩)) hl).mono ?_; rintro e w2 ⟨rfl, hm⟩)
  go_end0
  exact ⟨rfl, hm⟩

theorem runes_one (w : World) (c : Int) : Runes (w.alloc (.cells #[.int .i32 c] 21)) (some ⟨w.heap.size, 0, none⟩) [c] := by
  intro i x hx
  obtain ⟨rfl, rfl⟩ : i = 0 ∧ x = c := by
    cases i with
    | zero => simp at hx; exact ⟨rfl, hx.symm⟩
    | succ i => simp at hx
  exact ⟨_, _, rfl, by simp, by simp⟩
def OnePost (c : Int) (w : World) (e : Ending) (w' : World) : Prop := ∃ t : ByteArray, t.data.toList = enc1 c ∧ t.size ≤ 4 ∧ e = .returned (.string t) ∧ w = w'
/-- utf.Encode of a code point alone. -/
theorem encode_one (c : Int) (w : World) :
    Calls Try.prog 15 #[.slice (some ⟨w.heap.size, 0, none⟩) 1 1] (w.alloc (.cells #[.int .i32 c] 21)) (OnePost c (w.alloc (.cells #[.int .i32 c] 21))) := by
  refine (encode_any (some ⟨w.heap.size, 0, none⟩) [c] 1 _ (runes_one w c)).mono ?_
  rintro e w' ⟨rfl, rfl⟩
  have h : (runesBytes [c]).data.toList = enc1 c := by rw [runes_bytes]; simp [enc]
  refine ⟨_, h, ?_, rfl, rfl⟩
  have h1 := congrArg List.length h
  have h2 := (enc1_pos c).2
  have h3 : (runesBytes [c]).data.toList.length = (runesBytes [c]).size := by simp
  omega

theorem pe_take (set : Int) (l : List Int) (k : Nat) (h : k < l.length) : pe set (l.take (k + 1)) = pe set (l.take k) ++ pe1 set l[k] := by
  unfold pe
  rw [List.take_succ_eq_append_getElem h, List.flatMap_append, List.flatMap_cons, List.flatMap_nil, List.append_nil]
theorem tells_take (t : List UInt8) (k : Nat) (h : k < t.length) : (t.take (k + 1)).flatMap tell = (t.take k).flatMap tell ++ tell t[k] := by
  rw [List.take_succ_eq_append_getElem h, List.flatMap_append, List.flatMap_cons, List.flatMap_nil, List.append_nil]
theorem tells_length (t : List UInt8) : (t.flatMap tell).length = 3 * t.length := by
  induction t with
  | nil => rfl
  | cons a l ih => rw [List.flatMap_cons, List.length_append, ih]; simp [tell]; omega
theorem tell_parts (a : List UInt8) (b : UInt8) : a ++ [37] ++ [fig (b.toNat / 16)] ++ [fig (b.toNat % 16)] = a ++ tell b := by simp [tell]

set_option maxHeartbeats 2000000 in
set_option maxRecDepth 100000 in
theorem pencode_any (set : Int) (A : Option Addr) (l : List Int) (cap : Nat) (w : World) (h : Runes w A l) (hl : l.length ≤ 2000) :
    Calls Try.prog 11 #[.int .i64 set, .slice A l.length cap] w (TextPost (pe set l) w) := by
  have H0 := Lib.hid (EncW.new w)
  have HRu := Lib.hid h
  clear h
  go_enter Try.func11, Try.ntmps11
  go_wp2
  go_loopw [14] (fun i wr => ∃ k : Nat, k ≤ l.length ∧ i = .int .i64 k ∧ EncW w (pe set (l.take k)) wr) (fun i _ => l.length - (intOf i).toNat)
  case atStart => exact ⟨0, Nat.zero_le _, rfl, H0.out⟩
  case round =>
    obtain ⟨k, hk, rfl, hm⟩ := hrel
    have HM := Lib.hid hm
    have hlen : (pe set (l.take k)).length ≤ 24000 := by have := pe_length set (l.take k); simp at this; omega
    by_cases hlt : k < l.length
    · obtain ⟨b, off, rfl, _, hc⟩ := (HRu.out.below hm.2) k l[k] (List.getElem?_eq_getElem hlt)
      have HE := Lib.hid (pe_take set l k hlt)
      clear hm
      obtain ⟨x, hx⟩ : ∃ x, l[k] = x := ⟨_, rfl⟩
      rw [hx] at hc HE
      clear hx
      obtain ⟨a, ha⟩ : ∃ a, pe set (l.take k) = a := ⟨_, rfl⟩
      rw [ha] at HM hlen HE
      clear ha
      by_cases hin : inSet set x = true
      · have HI := Lib.hid hin
        have HP : Hid (pe1 set x = (enc1 x).flatMap tell) := by
          show pe1 set x = (enc1 x).flatMap tell
          unfold pe1; rw [if_pos hin]
        clear hin
        go_wp2_with (first
          | (go_at_call 15; refine (encode_one x _).mono ?_; rintro e w' ⟨t, ht, ht4, rfl, rfl⟩; have HT := Lib.hid ht; clear ht)
          | (go_at_call 9; refine (in_of _ HI.out).mono ?_; rintro e w1 ⟨rfl, hb1⟩; have HM := Lib.hid ((HM.out.carry ((Below.refl _ _).alloc (Nat.le_refl _) _)).carry hb1); clear hb1))
        go_loopw [29] (fun i wx => ∃ j : Nat, j ≤ t.size ∧ i = .int .i64 j ∧ EncW w (a ++ (t.data.toList.take j).flatMap tell) wx) (fun i _ => t.size - (intOf i).toNat)
        case atStart => exact ⟨0, Nat.zero_le _, rfl, by simpa using HM.out⟩
        case round =>
          obtain ⟨j, hj, rfl, hm3⟩ := hrel
          have HM3 := Lib.hid hm3
          clear hm3
          by_cases hjt : j < t.size
          · have hjl : j < t.data.toList.length := by simpa using hjt
            have HQ := Lib.hid (congrArg (a ++ ·) (tells_take t.data.toList j hjl))
            have hpl : (a ++ (t.data.toList.take j).flatMap tell).length ≤ 30000 := by rw [List.length_append, tells_length, List.length_take]; omega
            simp only [← List.append_assoc] at HQ
            obtain ⟨q, hq⟩ : ∃ q, a ++ (t.data.toList.take j).flatMap tell = q := ⟨_, rfl⟩
            rw [hq] at HM3 HQ hpl
            clear hq
            have hu := (t[j]'hjt).toNat_lt
            go_wp2_with (first
              | (go_at_call 21; refine (HM3.out.byte 37 37 rfl (by omega)).mono ?_; rintro e w3 ⟨rfl, hm4⟩; have HM4 := Lib.hid hm4; clear hm4)
              | (go_at_call 20; with_reducible refine (encFig_any HM4.out ((t[j]'hjt).toNat / 16) (((t[j]'hjt).toNat : Int) / 16) (by omega) (by omega) (by simp; omega)).mono ?_; rintro e w4 ⟨rfl, hm5⟩; have HM5 := Lib.hid hm5; clear hm5)
              | (go_at_call 20; with_reducible refine (encFig_any HM5.out ((t[j]'hjt).toNat % 16) (((t[j]'hjt).toNat : Int) % 16) (by omega) (by omega) (by simp; omega)).mono ?_; rintro e w5 ⟨rfl, hm6⟩; have HM6 := Lib.hid hm6; clear hm6))
            go_roundw
            case rel => exact ⟨j + 1, by omega, by go_num, by rw [HQ.out]; exact (tell_parts q (t[j]'hjt)) ▸ HM6.out⟩
            case measure => simp [intOf]; omega
          · have HQ : Hid (a ++ (t.data.toList.take j).flatMap tell = a ++ pe1 set x) := by
              show a ++ (t.data.toList.take j).flatMap tell = a ++ pe1 set x
              rw [List.take_of_length_le (by simp; omega), HP.out, HT.out]
            go_wp2
            go_roundw
            case rel => exact ⟨k + 1, by omega, by go_num, by rw [HE.out, ← HQ.out]; exact HM3.out⟩
            case measure => simp [intOf]; omega
      · have HI := Lib.hid (Bool.eq_false_iff.2 hin)
        have HP : Hid (pe1 set x = enc1 x) := by
          show pe1 set x = enc1 x
          unfold pe1; rw [if_neg hin]
        clear hin
        go_wp2_with (first
          | (go_at_call 15; refine (encode_one x _).mono ?_; rintro e w' ⟨t, ht, ht4, rfl, rfl⟩; have HT := Lib.hid ht; clear ht)
          | (go_at_call 9; refine (in_of _ HI.out).mono ?_; rintro e w1 ⟨rfl, hb1⟩; have HM := Lib.hid ((HM.out.carry ((Below.refl _ _).alloc (Nat.le_refl _) _)).carry hb1); clear hb1)
          | (go_at_call 22; refine (HM.out.text t (by omega) (by omega)).mono ?_; rintro e w2 ⟨rfl, hm2⟩))
        go_roundw
        case rel => exact ⟨k + 1, by omega, by go_num, by rw [HE.out, HP.out, ← HT.out]; exact hm2⟩
        case measure => simp [intOf]; omega
    · have HE : Hid (pe set (l.take k) = pe set l) := by
        show pe set (l.take k) = pe set l
        rw [List.take_of_length_le (by omega)]
      clear hm
      go_wp2_with (go_at_call 23; refine HM.out.done.mono ?_; rintro e w2 ⟨rfl, hb2⟩)
      go_ret
      exact ⟨by rw [HE.out]; rfl, hb2⟩
end Go.Proofs.Ytlekbkmcjpnifaa

/-
  PctDecodes, PctBack, PctSafe, walked: whatever the input, true.
-/
import Derived.Test.YtlekbkmcjpnifaaPLaws
namespace Go.Proofs.Ytlekbkmcjpnifaa
open Go.RowKit

/-- Without percent signs. -/
def plainB (l : List UInt8) : Bool := l.all fun b => (b.toNat : Int) != 37
theorem plainB_succ (l : List UInt8) (k : Nat) (h : k < l.length) : plainB (l.take (k + 1)) = (plainB (l.take k) && ((l[k].toNat : Int) != 37)) := by
  unfold plainB
  rw [List.take_succ_eq_append_getElem h, List.all_append]
  simp
theorem pd_plainB {l : List UInt8} (h : plainB l = true) : pd l = l := by
  refine pd_same fun b hb e => ?_
  have := List.all_eq_true.1 h b hb
  rw [e] at this
  exact absurd this (by decide)

set_option maxHeartbeats 1000000 in
set_option maxRecDepth 100000 in
theorem law_decodes (s : ByteArray) (w : World) (hs : s.size ≤ maxLen) :
    Calls Try.prog 5 #[.string s] w (Yes w) := by
  unfold maxLen at hs
  by_cases h : s.size ≤ 300
  · have h2 : s.size ≤ 5000 := by omega
    obtain ⟨d, hd⟩ : ∃ d : ByteArray, (⟨(pd s.data.toList).toArray⟩ : ByteArray) = d := ⟨_, rfl⟩
    have hdl : d.size ≤ s.size := by
      have := pd_length s.data.toList
      rw [← hd]
      show (pd s.data.toList).toArray.size ≤ s.size
      simpa using this
    have HP : Hid (plainB s.data.toList = true → d = s) := by
      intro hp
      rw [← hd, pd_plainB hp]
    have HD := Lib.hid hd
    clear hd
    go_enter Try.func5, Try.ntmps5
    go_wp2_with (first
      | (go_at_call 8; refine (awake_any _).mono ?_; rintro e w1 ⟨rfl, hb⟩; have HB := Lib.hid hb; clear hb)
      | (go_at_call 13; refine (pdecode_any _ _ h2).mono ?_; rintro e w2 ⟨rfl, hb⟩; rw [HD.out]; have HB := Lib.hid (bnext HB.out hb); clear hb))
    go_loopw [5, 6] (fun p i wr => ∃ k : Nat, k ≤ s.size ∧ i = .int .i64 k ∧ p = .bool (plainB (s.data.toList.take k)) ∧ wr = w2) (fun _ i _ => s.size - (intOf i).toNat)
    case atStart => exact ⟨0, Nat.zero_le _, rfl, rfl, rfl⟩
    case round =>
      obtain ⟨k, hk, rfl, rfl, rfl⟩ := hrel
      by_cases hlt : k < s.size
      · have hl : k < s.data.toList.length := by simpa using hlt
        have HT := Lib.hid (plainB_succ s.data.toList k hl)
        have hu := (s[k]'hlt).toNat_lt
        cases hp : plainB (s.data.toList.take k) with
        | false =>
          rw [hp] at HT
          clear hp
          go_wp2
          go_roundw
          case rel => exact ⟨k + 1, by omega, by go_num, by rw [HT.out]; rfl, by first | rfl | trivial⟩
          case measure => simp [intOf]; omega
        | true =>
          rw [hp] at HT
          clear hp
          go_wp2
          go_roundw
          case rel => exact ⟨k + 1, by omega, by go_num, by rw [HT.out]; rfl, by first | rfl | trivial⟩
          case measure => simp [intOf]; omega
      · have HE : Hid (plainB (s.data.toList.take k) = plainB s.data.toList) := by
          show plainB (s.data.toList.take k) = plainB s.data.toList
          rw [List.take_of_length_le (by simp; omega)]
        cases hp : plainB (s.data.toList.take k) with
        | false =>
          clear HE hp
          go_wp2_with (go_at_call 14; refine (refPd_any _ _ h2).mono ?_; rintro e w3 ⟨rfl, hb⟩; rw [HD.out]; have HB := Lib.hid (bnext HB.out hb); clear hb)
          go_ret
          exact ⟨rfl, HB.out⟩
        | true =>
          have hds : d = s := HP.out (HE.out ▸ hp)
          subst hds
          clear HE hp
          go_wp2_with (go_at_call 14; refine (refPd_any _ _ h2).mono ?_; rintro e w3 ⟨rfl, hb⟩; rw [HD.out]; have HB := Lib.hid (bnext HB.out hb); clear hb)
          go_ret
          exact ⟨rfl, HB.out⟩
  · go_enter Try.func5, Try.ntmps5
    go_wp2_with (go_at_call 8; refine (awake_any _).mono ?_; rintro e w1 ⟨rfl, hb1⟩)
    go_ret
    exact ⟨rfl, hb1⟩

def plainR (l : List Int) : Bool := l.all fun c => c != 37
theorem plainR_succ (l : List Int) (k : Nat) (h : k < l.length) : plainR (l.take (k + 1)) = (plainR (l.take k) && (l[k] != 37)) := by
  unfold plainR
  rw [List.take_succ_eq_append_getElem h, List.all_append]
  simp
theorem back_7 (l : List Int) : (⟨(pd (pe 7 l)).toArray⟩ : ByteArray) = runesBytes l := bytes_eq (by rw [pd_pe7, runes_bytes])
theorem back_plain (set : Int) (l : List Int) (h : plainR l = true) : (⟨(pd (pe set l)).toArray⟩ : ByteArray) = runesBytes l := by
  refine bytes_eq ?_
  rw [runes_bytes]
  refine pd_pe_plain set l fun c hc e => ?_
  have := List.all_eq_true.1 h c hc
  rw [e] at this
  exact absurd this (by decide)
theorem pdecode_pe (set : Int) (l : List Int) (t : ByteArray) (w : World) (hl : l.length ≤ 100) (h : (⟨(pd (pe set l)).toArray⟩ : ByteArray) = t) :
    Calls Try.prog 13 #[.string ⟨(pe set l).toArray⟩] w fun e w' => e = .returned (.string t) ∧ Below w.heap.size w w' := by
  have hp := pe_length set l
  refine (pdecode_any ⟨(pe set l).toArray⟩ w (by show (pe set l).toArray.size ≤ 5000; simp; omega)).mono ?_
  rintro e w' ⟨rfl, hb⟩
  exact ⟨by rw [← h], hb⟩

set_option maxHeartbeats 1000000 in
set_option maxRecDepth 100000 in
theorem law_back (set : Int) (A : Option Addr) (l : List Int) (cap : Nat) (w : World) (_ : -9223372036854775808 ≤ set) (_ : set ≤ 9223372036854775807) (hr : Runes w A l) (hs : l.length ≤ maxLen) :
    Calls Try.prog 6 #[.int .i64 set, .slice A l.length cap] w (Yes w) := by
  unfold maxLen at hs
  have HR := Lib.hid hr
  clear hr
  by_cases h : l.length ≤ 100
  · have h2 : l.length ≤ 2000 := by omega
    go_enter Try.func6, Try.ntmps6
    go_wp2_with (go_at_call 8; refine (awake_any _).mono ?_; rintro e w1 ⟨rfl, hb⟩; have HB := Lib.hid hb; clear hb)
    go_loopw [7, 8] (fun p i wr => ∃ k : Nat, k ≤ l.length ∧ i = .int .i64 k ∧ p = .bool (plainR (l.take k)) ∧ wr = w1) (fun _ i _ => l.length - (intOf i).toNat)
    case atStart => exact ⟨0, Nat.zero_le _, rfl, rfl, rfl⟩
    case round =>
      obtain ⟨k, hk, rfl, rfl, rfl⟩ := hrel
      by_cases hlt : k < l.length
      · have HT := Lib.hid (plainR_succ l k hlt)
        obtain ⟨b, off, rfl, _, hc⟩ := (HR.out.below HB.out) k l[k] (List.getElem?_eq_getElem hlt)
        obtain ⟨x, hx⟩ : ∃ x, l[k] = x := ⟨_, rfl⟩
        rw [hx] at hc HT
        clear hx
        cases hp : plainR (l.take k) with
        | false =>
          rw [hp] at HT
          clear hp
          go_wp2
          go_roundw
          case rel => exact ⟨k + 1, by omega, by go_num, by rw [HT.out]; rfl, by first | rfl | trivial⟩
          case measure => simp [intOf]; omega
        | true =>
          rw [hp] at HT
          clear hp
          go_wp2
          go_roundw
          case rel => exact ⟨k + 1, by omega, by go_num, by rw [HT.out]; rfl, by first | rfl | trivial⟩
          case measure => simp [intOf]; omega
      · have HE : Hid (plainR (l.take k) = plainR l) := by
          show plainR (l.take k) = plainR l
          rw [List.take_of_length_le (by omega)]
        obtain ⟨t, ht⟩ : ∃ t, runesBytes l = t := ⟨_, rfl⟩
        have HT := Lib.hid ht
        have H7 := Lib.hid ((back_7 l).trans ht)
        have HP : Hid (plainR l = true → ∀ K, (⟨(pd (pe K l)).toArray⟩ : ByteArray) = t) := fun hp K => (back_plain K l hp).trans ht
        clear ht
        cases hp : plainR (l.take k) with
        | false =>
          clear HE hp HP
          go_wp2_with (first
            | (go_at_call 15; refine (encode_any _ _ _ _ (HR.out.below HB.out)).mono ?_; rintro e w' ⟨rfl, rfl⟩; rw [HT.out])
            | (go_at_call 11; refine (pencode_any _ A l cap _ (HR.out.below HB.out) h2).mono ?_; rintro e w2 ⟨rfl, hb⟩; have HB := Lib.hid (bnext HB.out hb); clear hb)
            | (go_at_call 13; (with_reducible refine (pdecode_pe 7 l t _ h H7.out).mono ?_); rintro e w2 ⟨rfl, hb⟩; have HB := Lib.hid (bnext HB.out hb); clear hb))
          go_ret
          exact ⟨rfl, HB.out⟩
        | true =>
          have HP := Lib.hid (HP.out (HE.out ▸ hp))
          clear HE hp
          go_wp2_with (first
            | (go_at_call 15; refine (encode_any _ _ _ _ (HR.out.below HB.out)).mono ?_; rintro e w' ⟨rfl, rfl⟩; rw [HT.out])
            | (go_at_call 11; refine (pencode_any _ A l cap _ (HR.out.below HB.out) h2).mono ?_; rintro e w2 ⟨rfl, hb⟩; have HB := Lib.hid (bnext HB.out hb); clear hb)
            | (go_at_call 13; (with_reducible refine (pdecode_pe 7 l t _ h H7.out).mono ?_); rintro e w2 ⟨rfl, hb⟩; have HB := Lib.hid (bnext HB.out hb); clear hb)
            | (go_at_call 13; (with_reducible refine (pdecode_pe _ l t _ h (HP.out _)).mono ?_); rintro e w2 ⟨rfl, hb⟩; have HB := Lib.hid (bnext HB.out hb); clear hb))
          go_ret
          exact ⟨rfl, HB.out⟩
  · go_enter Try.func6, Try.ntmps6
    go_wp2_with (go_at_call 8; refine (awake_any _).mono ?_; rintro e w1 ⟨rfl, hb1⟩)
    go_ret
    exact ⟨rfl, hb1⟩

theorem six (set : Int) (h0 : -9223372036854775808 ≤ set) (h1 : set ≤ 9223372036854775807) : 1 ≤ wrap64 (1 + wrap64 ((IntKind.u64.wrap set).tmod 6)) ∧ wrap64 (1 + wrap64 ((IntKind.u64.wrap set).tmod 6)) ≤ 6 := by
  have hu : 0 ≤ IntKind.u64.wrap set := by
    simp only [IntKind.wrap, IntKind.bits, IntKind.signed]
    simp
    omega
  rw [Int.tmod_eq_emod_of_nonneg hu]
  unfold wrap64
  omega

set_option maxHeartbeats 1000000 in
set_option maxRecDepth 100000 in
theorem law_safe (set : Int) (A : Option Addr) (l : List Int) (cap : Nat) (w : World) (hk0 : -9223372036854775808 ≤ set) (hk1 : set ≤ 9223372036854775807) (hr : Runes w A l) (hs : l.length ≤ maxLen) :
    Calls Try.prog 7 #[.int .i64 set, .slice A l.length cap] w (Yes w) := by
  unfold maxLen at hs
  have HR := Lib.hid hr
  clear hr
  by_cases h : l.length ≤ 100
  · have h2 : l.length ≤ 2000 := by omega
    have HK := Lib.hid (six set hk0 hk1)
    have HL : Hid (∀ K, (⟨(pe K l).toArray⟩ : ByteArray).size ≤ 2000) := by
      intro K
      have := pe_length K l
      show (pe K l).toArray.size ≤ 2000
      simp; omega
    go_enter Try.func7, Try.ntmps7
    go_wp2_with (first
      | (go_at_call 8; refine (awake_any _).mono ?_; rintro e w1 ⟨rfl, hb⟩; have HB := Lib.hid hb; clear hb)
      | (go_at_call 11; refine (pencode_any _ A l cap _ (HR.out.below HB.out) h2).mono ?_; rintro e w2 ⟨rfl, hb⟩; have HB := Lib.hid (bnext HB.out hb); clear hb)
      | (go_at_call 16; refine (refDecode_any _ _ (HL.out _)).mono ?_; rintro e w3 ⟨v, rfl, hm⟩; have HM := Lib.hid hm; have HB := Lib.hid (bnext HB.out hm.2); clear hm))
    obtain ⟨K, hK⟩ : ∃ K, wrap64 (1 + wrap64 ((IntKind.u64.wrap set).tmod 6)) = K := ⟨_, rfl⟩
    simp only [hK] at HK HM ⊢
    clear hK
    obtain ⟨s, hsd⟩ : ∃ s, dec (pe K l) = s := ⟨_, rfl⟩
    have hsl : s.length ≤ 1200 := by
      have h3 := dec_length (pe K l)
      have h4 := pe_length K l
      rw [hsd] at h3
      omega
    have HS : Hid (∀ x ∈ s, inSet K x = false) := by
      show ∀ x ∈ s, inSet K x = false
      rw [← hsd]
      exact dec_pe_out HK.out.1 HK.out.2 l
    have HP : Hid (pe K s = pe K l) := by
      show pe K s = pe K l
      rw [← hsd]
      exact pe_dec_pe HK.out.1 HK.out.2 l
    rw [hsd] at HM
    clear hsd
    obtain ⟨A', c', rfl, hr'⟩ := HM.out.runes
    have HR' := Lib.hid hr'
    clear hr' HM
    go_loopw [8] (fun i wr => ∃ k : Nat, k ≤ s.length ∧ i = .int .i64 k ∧ wr = w3) (fun i _ => s.length - (intOf i).toNat)
    case atStart => exact ⟨0, Nat.zero_le _, rfl, rfl⟩
    case round =>
      obtain ⟨k, hk, rfl, rfl⟩ := hrel
      by_cases hlt : k < s.length
      · obtain ⟨b, off, rfl, _, hc⟩ := HR'.out k s[k] (List.getElem?_eq_getElem hlt)
        have HN := Lib.hid (HS.out s[k] (List.getElem_mem hlt))
        obtain ⟨x, hx⟩ : ∃ x, s[k] = x := ⟨_, rfl⟩
        rw [hx] at hc HN
        clear hx
        go_wp2_with (go_at_call 10; refine (refIn_of _ HN.out).mono ?_; rintro e w' ⟨rfl, rfl⟩)
        go_roundw
        case rel => exact ⟨k + 1, by omega, by go_num, by first | rfl | trivial⟩
        case measure => simp [intOf]; omega
      · have h3 : s.length ≤ 2000 := by omega
        obtain ⟨t, ht⟩ : ∃ t : ByteArray, (⟨(pe K l).toArray⟩ : ByteArray) = t := ⟨_, rfl⟩
        have HT := Lib.hid ht
        have HT' : Hid ((⟨(pe K s).toArray⟩ : ByteArray) = t) := by
          show (⟨(pe K s).toArray⟩ : ByteArray) = t
          rw [HP.out, ht]
        clear ht
        go_wp2_with (first
          | (go_at_call 11; (with_reducible refine (pencode_any K A' s c' _ (HR'.out.below (Below.refl _ _)) h3).mono ?_); rintro e w4 ⟨rfl, hb⟩; rw [HT'.out]; have HB := Lib.hid (bnext HB.out hb); clear hb)
          | (go_at_call 11; (with_reducible refine (pencode_any K A l cap _ (HR.out.below HB.out) h2).mono ?_); rintro e w5 ⟨rfl, hb⟩; rw [HT.out]; have HB := Lib.hid (bnext HB.out hb); clear hb))
        go_ret
        exact ⟨rfl, HB.out⟩
  · go_enter Try.func7, Try.ntmps7
    go_wp2_with (go_at_call 8; refine (awake_any _).mono ?_; rintro e w1 ⟨rfl, hb1⟩)
    go_ret
    exact ⟨rfl, hb1⟩
end Go.Proofs.Ytlekbkmcjpnifaa

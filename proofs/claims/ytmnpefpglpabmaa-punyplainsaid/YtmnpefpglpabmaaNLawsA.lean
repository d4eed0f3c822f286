/-
  PunyBack, PunyOnce, PunyPlain, walked over the program's contracts: whatever the input, true.
-/
import Derived.Test.YtmnpefpglpabmaaNAwake
import Derived.Test.YtmnpefpglpabmaaNRefSmall
namespace Go.Proofs.Ytmnpefpglpabmaa
open Go.RowKit

theorem same_true (A B : Option Addr) (a b : List Int) (m n c d : Nat) (w : World) (hm : m = a.length) (hn : n = b.length) (ha : Runes w A a) (hb : Runes w B b) (hl : a.length ≤ 5000) (h : a = b) :
    Calls Try.prog 10 #[.slice A m c, .slice B n d] w (Yes w) := by
  subst hm; subst hn
  exact (same_any A B a b c d w ha hb hl).mono fun _ _ ⟨he, n, hw⟩ => ⟨by rw [he, show same a b = true by simp [same, h]], by rw [hw]; exact below_drewN (Below.refl _ _) _⟩

set_option maxHeartbeats 1000000 in
set_option maxRecDepth 100000 in
theorem law_once (C : PunyC) (s : ByteArray) (w : World) (hs : s.size ≤ maxLen) :
    Calls Try.prog 4 #[.string s] w (Yes w) := by
  unfold maxLen at hs
  have HC := Lib.hid C
  clear C
  by_cases h : s.size ≤ 80
  · have h2 : s.size ≤ 800 := by omega
    have h3 : s.size ≤ 900 := by omega
    cases hp : pdec s.data.toList with
    | none =>
      have HP := Lib.hid hp
      clear hp
      go_enter Try.func4, Try.ntmps4
      go_wp2_with (first
        | (go_at_call 6; refine (awake_any HC.out _).mono ?_; rintro e w1 ⟨rfl, hb⟩; have HB := Lib.hid hb; clear hb)
        | (go_at_call 9; refine (HC.out.dec _ _ h2).mono ?_; intro e w2 hd; rw [HP.out] at hd; obtain ⟨cs, u, x, rfl, hch, hb⟩ := hd; have HCh := Lib.hid hch; have HB := Lib.hid (bnext HB.out hb); clear hch hb)
        | (go_at_call 11; refine (is_any _ 2 2 u x _ HCh.out).mono ?_; rintro e w' ⟨rfl, rfl⟩))
      go_ret
      exact ⟨rfl, HB.out⟩
    | some l =>
      have HP := Lib.hid hp
      have hpp := penc_pdec hp
      have hlen := pdec_length hp
      have hll : l.length ≤ 100 := by simp at hlen; omega
      obtain ⟨t, ht⟩ : ∃ t : ByteArray, (⟨(small s.data.toList).toArray⟩ : ByteArray) = t := ⟨_, rfl⟩
      have HT := Lib.hid ht
      have HT2 : Hid ((⟨(penc l).toArray⟩ : ByteArray) = t) := by
        show (⟨(penc l).toArray⟩ : ByteArray) = t
        rw [hpp.1, ht]
      have HSc := Lib.hid hpp.2
      clear hp hpp hlen ht
      go_enter Try.func4, Try.ntmps4
      go_wp2_with (first
        | (go_at_call 6; refine (awake_any HC.out _).mono ?_; rintro e w1 ⟨rfl, hb⟩; have HB := Lib.hid hb; clear hb)
        | (go_at_call 9; refine (HC.out.dec _ _ h2).mono ?_; intro e w2 hd; rw [HP.out] at hd; obtain ⟨A, c, rfl, hr, hcap, hb⟩ := hd; have HR := Lib.hid hr; have HCap := Lib.hid hcap; have HB := Lib.hid (bnext HB.out hb); clear hr hb hcap)
        | (go_at_call 7; refine (HC.out.encOk A l c _ HR.out HSc.out hll HCap.out).mono ?_; rintro e w3 ⟨rfl, hb⟩; rw [HT2.out]; have HB := Lib.hid (bnext HB.out hb); clear hb)
        | (go_at_call 12; refine (refSmall_any _ _ h3).mono ?_; rintro e w4 ⟨rfl, hb⟩; rw [HT.out]; have HB := Lib.hid (bnext HB.out hb); clear hb))
      go_ret
      exact ⟨rfl, HB.out⟩
  · go_enter Try.func4, Try.ntmps4
    go_wp2_with (go_at_call 6; refine (awake_any HC.out _).mono ?_; rintro e w1 ⟨rfl, hb1⟩)
    go_ret
    exact ⟨rfl, hb1⟩

set_option maxHeartbeats 1000000 in
set_option maxRecDepth 100000 in
theorem law_back (C : PunyC) (A : Option Addr) (l : List Int) (cap : Nat) (w : World) (hr : Runes w A l) (hs : l.length ≤ maxLen) (hcap : l.length ≤ cap) (hrng : ∀ c ∈ l, -2147483648 ≤ c ∧ c < 2147483648) :
    Calls Try.prog 3 #[.slice A l.length cap] w (Yes w) := by
  unfold maxLen at hs
  have HC := Lib.hid C
  have HR := Lib.hid hr
  clear C hr
  by_cases h : l.length ≤ 60
  · have h2 : l.length ≤ 100 := by omega
    by_cases hsc : ∀ c ∈ l, scal c = true
    · obtain ⟨he, hok⟩ := ints_of hsc
      obtain ⟨ln, hln⟩ : ∃ ln, l.map Int.toNat = ln := ⟨_, rfl⟩
      rw [hln] at he hok
      clear hln
      subst he
      rw [ints_length] at h h2 hcap hs ⊢
      have HOk := Lib.hid hok
      have HScal := Lib.hid hsc
      have hpl := penc_len hok h
      have HPd := Lib.hid (pdec_penc hok h)
      have HBy := Lib.hid (penc_bytes ln)
      obtain ⟨t, ht⟩ : ∃ t : ByteArray, (⟨(penc ln).toArray⟩ : ByteArray) = t := ⟨_, rfl⟩
      have HTl : Hid (t.data.toList = penc ln) := by
        show t.data.toList = penc ln
        rw [← ht]
      have hts : t.size ≤ 800 := by
        rw [← ht]; show (penc ln).toArray.size ≤ 800; simp; omega
      have HT := Lib.hid ht
      clear hok hsc hpl ht
      go_enter Try.func3, Try.ntmps3
      go_wp2_with (first
        | (go_at_call 6; refine (awake_any HC.out _).mono ?_; rintro e w1 ⟨rfl, hb⟩; have HB := Lib.hid hb; clear hb)
        | (go_at_call 7; refine (HC.out.encOk A ln cap _ (HR.out.below HB.out) HOk.out h2 hcap).mono ?_; rintro e w2 ⟨rfl, hb⟩; rw [HT.out]; have HB := Lib.hid (bnext HB.out hb); clear hb))
      go_loopw [6] (fun i wr => ∃ k : Nat, k ≤ ln.length ∧ i = .int .i64 k ∧ wr = w2) (fun i _ => ln.length - (intOf i).toNat)
      case atStart => exact ⟨0, Nat.zero_le _, rfl, rfl⟩
      case round =>
        obtain ⟨k, hk, rfl, hw⟩ := hrel
        have hw' := hw.symm
        subst hw'
        clear hw
        by_cases hlt : k < ln.length
        · obtain ⟨b, off, rfl, _, hc⟩ := (HR.out.below HB.out) k _ (ints_at ln k hlt)
          have HX : Hid (scal (ln[k] : Int) = true) := HScal.out _ (by unfold ints; exact List.mem_map.2 ⟨ln[k], List.getElem_mem hlt, rfl⟩)
          obtain ⟨x, hx⟩ : ∃ x, ln[k] = x := ⟨_, rfl⟩
          rw [hx] at hc HX
          clear hx
          go_wp2_with (go_at_call 8; refine (scalar_true _ _ HX.out).mono ?_; rintro e w' ⟨rfl, rfl⟩)
          go_roundw
          case rel => exact ⟨k + 1, by omega, by go_num, by first | rfl | trivial⟩
          case measure => simp [intOf]; omega
        · go_wp2_with (go_at_call 9; refine (HC.out.dec _ _ hts).mono ?_; intro e w3 hd; rw [HTl.out, HPd.out] at hd; obtain ⟨A', c', rfl, hr', _, hb⟩ := hd; have HR' := Lib.hid hr'; have HB := Lib.hid (bnext HB.out hb); clear hr' hb)
          go_loopw [9] (fun i wr => ∃ k : Nat, k ≤ t.size ∧ i = .int .i64 k ∧ wr = w3) (fun i _ => t.size - (intOf i).toNat)
          case atStart => exact ⟨0, Nat.zero_le _, rfl, rfl⟩
          case round =>
            obtain ⟨k2, hk2, rfl, hw⟩ := hrel
            have hw' := hw.symm
            subst hw'
            clear hw
            by_cases hlt2 : k2 < t.size
            · have hb128 : (t[k2]'hlt2).toNat < 128 := HBy.out _ (by rw [← HTl.out]; exact Array.getElem_mem_toList (xs := t.data) hlt2)
              go_wp2
              go_roundw
              case rel => exact ⟨k2 + 1, by omega, by go_num, by first | rfl | trivial⟩
              case measure => simp [intOf]; omega
            · go_wp2_with (go_at_call 10; refine (same_true A' A (ints ln) (ints ln) ln.length ln.length c' cap _ (ints_length ln).symm (ints_length ln).symm HR'.out (HR.out.below HB.out) (by rw [ints_length]; omega) rfl).mono ?_; rintro e w4 ⟨rfl, hb⟩; have HB := Lib.hid (bnext HB.out hb); clear hb)
              go_ret
              exact ⟨rfl, HB.out⟩
    · have HBad := Lib.hid hsc
      have HRng := Lib.hid hrng
      clear hsc hrng
      go_enter Try.func3, Try.ntmps3
      go_wp2_with (first
        | (go_at_call 6; refine (awake_any HC.out _).mono ?_; rintro e w1 ⟨rfl, hb⟩; have HB := Lib.hid hb; clear hb)
        | (go_at_call 7; refine (HC.out.encBad A l cap _ (HR.out.below HB.out) HRng.out HBad.out h2 hcap).mono ?_; rintro e w2 ⟨cs, u, x, rfl, _, hb⟩; have HB := Lib.hid (bnext HB.out hb); clear hb))
      go_loopw [6] (fun i wr => ∃ k : Nat, k ≤ l.length ∧ i = .int .i64 k ∧ wr = w2 ∧ ∀ c ∈ l.take k, scal c = true) (fun i _ => l.length - (intOf i).toNat)
      case atStart => exact ⟨0, Nat.zero_le _, rfl, rfl, fun c hc => by simp at hc⟩
      case round =>
        obtain ⟨k, hk, rfl, hw, hall⟩ := hrel
        have hw' := hw.symm
        subst hw'
        have HAll := Lib.hid hall
        clear hw hall
        by_cases hlt : k < l.length
        · obtain ⟨b, off, rfl, _, hc⟩ := (HR.out.below HB.out) k l[k] (List.getElem?_eq_getElem hlt)
          have HT : Hid (scal l[k] = true → ∀ c ∈ l.take (k + 1), scal c = true) := by
            intro h c hc
            rw [List.take_succ_eq_append_getElem hlt, List.mem_append, List.mem_singleton] at hc
            rcases hc with hc | rfl
            · exact HAll.out c hc
            · exact h
          obtain ⟨y, hy⟩ : ∃ y, l[k] = y := ⟨_, rfl⟩
          rw [hy] at hc HT
          clear hy
          by_cases hsy : scal y = true
          · have HX := Lib.hid hsy
            clear hsy
            go_wp2_with (go_at_call 8; refine (scalar_true _ _ HX.out).mono ?_; rintro e w' ⟨rfl, rfl⟩)
            go_roundw
            case rel => exact ⟨k + 1, by omega, by go_num, by first | rfl | trivial, HT.out HX.out⟩
            case measure => simp [intOf]; omega
          · have HX := Lib.hid (Bool.eq_false_iff.2 hsy)
            clear hsy
            go_wp2_with (go_at_call 8; refine (scalar_false _ _ HX.out).mono ?_; rintro e w' ⟨rfl, rfl⟩)
            go_ret
            exact ⟨rfl, HB.out⟩
        · exfalso
          have := HAll.out
          rw [List.take_of_length_le (by omega)] at this
          exact HBad.out this
  · go_enter Try.func3, Try.ntmps3
    go_wp2_with (go_at_call 6; refine (awake_any HC.out _).mono ?_; rintro e w1 ⟨rfl, hb1⟩)
    go_ret
    exact ⟨rfl, hb1⟩

/-- A text's bytes below 128, as numbers. -/
def low7 (l : List UInt8) : List Nat := l.map fun b => b.toNat % 128
theorem low7_take (l : List UInt8) (k : Nat) (h : k < l.length) : ints (low7 (l.take (k + 1))) = ints (low7 (l.take k)) ++ [((l[k].toNat % 128 : Nat) : Int)] := by
  rw [List.take_succ_eq_append_getElem h]
  simp only [ints, low7, List.map_append, List.map_cons, List.map_nil]
theorem low7_lt (l : List UInt8) : ∀ x ∈ low7 l, x < 128 := by
  intro x hx
  obtain ⟨b, _, rfl⟩ := List.mem_map.1 hx
  exact Nat.mod_lt _ (by decide)
theorem low7_bytes (l : List UInt8) : (runesBytes (ints (low7 l))).data.toList = (low7 l).map UInt8.ofNat := by
  rw [runes_bytes]
  have : ∀ m : List Nat, (∀ x ∈ m, x < 128) → enc (ints m) = m.map UInt8.ofNat := by
    intro m hm
    induction m with
    | nil => rfl
    | cons a m ih =>
      show enc1 (a : Int) ++ enc (ints m) = _
      have ha := hm a (List.mem_cons_self ..)
      rw [ih (fun x hx => hm x (List.mem_cons_of_mem _ hx)), enc1_one _ (by omega) (by omega)]
      simp
  exact this _ (low7_lt l)
theorem bytes_eq {a b : ByteArray} (h : a.data.toList = b.data.toList) : a = b := by
  obtain ⟨a⟩ := a
  obtain ⟨b⟩ := b
  simp only [Array.toList_inj] at h
  rw [h]

theorem convert_at (A : Option Addr) (ln : List Nat) (c : Nat) (w : World) (rb : ByteArray) (hb : runesBytes (ints ln) = rb) (h : Runes w A (ints ln)) :
    (convert 22 9 (.slice A ln.length c)).run Try.prog w = .ok (.string rb) w := by
  have := convert_runes A (ints ln) c w h
  rw [ints_length, hb] at this
  exact this

set_option maxHeartbeats 1000000 in
set_option maxRecDepth 100000 in
theorem law_plain (C : PunyC) (s : ByteArray) (w : World) (hs : s.size ≤ maxLen) :
    Calls Try.prog 5 #[.string s] w (Yes w) := by
  unfold maxLen at hs
  have HC := Lib.hid C
  clear C
  obtain ⟨i0, hi, hz0, hz1, hz2⟩ := info_parts Try.infoR
  have HI := Lib.hid (And.intro hi (And.intro hz0 (And.intro hz1 hz2)))
  clear hi hz0 hz1 hz2
  by_cases h : s.size ≤ 60
  · have hsl : s.data.toList.length = s.size := by simp
    have HSl := Lib.hid hsl
    clear hsl
    go_enter Try.func5, Try.ntmps5
    go_wp2_with (go_at_call 6; refine (awake_any HC.out _).mono ?_; rintro e w1 ⟨rfl, hb⟩; have HB := Lib.hid hb; clear hb)
    go_loopw [4, 5] (fun v i wr => ∃ k : Nat, k ≤ s.size ∧ i = .int .i64 k ∧ Made w1 wr v (ints (low7 (s.data.toList.take k)))) (fun _ i _ => s.size - (intOf i).toNat)
    case atStart => exact ⟨0, Nat.zero_le _, rfl, ⟨World.ownsRow_nil _ _ _ _, Below.refl _ _⟩⟩
    case round =>
      obtain ⟨k, hk, rfl, hm⟩ := hrel
      have HM := Lib.hid hm
      have hlen : (ints (low7 (s.data.toList.take k))).length = k := by
        rw [ints_length]; unfold low7; rw [List.length_map, List.length_take, HSl.out]; omega
      have HLen := Lib.hid hlen
      clear hm hlen
      by_cases hlt : k < s.size
      · have hl : k < s.data.toList.length := by rw [HSl.out]; exact hlt
        have HT := Lib.hid (low7_take s.data.toList k hl)
        have hu := (s[k]'hlt).toNat_lt
        go_wp2_with (at_builtin
                     refine wpList_append_own _ rfl (.tmp 19) (.tmp 25) 22 rfl w1.heap.size 21 i0 _ 1 4 Try.underlying22 HI.out.1 HI.out.2.1 HI.out.2.2.1 HI.out.2.2.2 rfl (by decide) _ _ _ rfl (HM.out.1.alloc _) ⟨wr.heap.size, 0, none⟩ 1 1 [.int .i32 (((s[k]'hlt).toNat : Int) % 128)] rfl rfl (cell_one_new _ _ _) (by simp [Value.oneCell']) ?ha ?hb ?hc ?_
                     case ha => rw [HLen.out]; simp only [maxLen]; omega
                     case hb => rw [HLen.out]; omega
                     case hc => have := HM.out.2.size; simp; omega
                     intro v' w2 hown' hgrow _)
        go_roundw
        case rel => exact ⟨k + 1, by omega, by go_num, by rw [HT.out]; exact HM.out.push hown' hgrow⟩
        case measure => simp [intOf]; omega
      · have hm := HM.out
        have htk : s.data.toList.take k = s.data.toList := List.take_of_length_le (by rw [HSl.out]; omega)
        rw [htk] at hm
        have HM := Lib.hid hm
        have hrow := hm.1
        obtain ⟨A, c, e, hr⟩ := hm.runes
        obtain ⟨ln, hln⟩ : ∃ ln, low7 s.data.toList = ln := ⟨_, rfl⟩
        have hll : ln.length = s.size := by rw [← hln]; unfold low7; rw [List.length_map, HSl.out]
        have hcap : ln.length ≤ c := by
          rcases hrow.2 with ⟨h0, h1⟩ | ⟨g, cap', cur, h0, _, _, hle, _⟩
          · rw [hln, ints_length] at h1; omega
          · rw [e] at h0
            cases h0
            rw [hln, ints_length] at hle
            exact hle
        have HLow : Hid (∀ x ∈ ln, x < 128) := by
          show ∀ x ∈ ln, x < 128
          rw [← hln]; exact low7_lt _
        have HBy : Hid ((runesBytes (ints ln)).data.toList = ln.map UInt8.ofNat) := by
          show (runesBytes (ints ln)).data.toList = ln.map UInt8.ofNat
          rw [← hln]; exact low7_bytes _
        rw [hln] at hr e
        rw [ints_length] at e
        subst e
        have HR := Lib.hid hr
        have HPp := Lib.hid (penc_plain HLow.out)
        have hl100 : ln.length ≤ 100 := by omega
        have HB1 := Lib.hid (bnext HB.out hm.2)
        have HLl := Lib.hid hll
        clear hm hrow hr hln hll htk
        by_cases hz : s.size = 0
        · have HT : Hid ((⟨(penc ln).toArray⟩ : ByteArray) = ⟨#[]⟩) := by
            show (⟨(penc ln).toArray⟩ : ByteArray) = ⟨#[]⟩
            have hn : ln = [] := List.eq_nil_of_length_eq_zero (by rw [HLl.out]; exact hz)
            rw [HPp.out, hn]
            rfl
          have hz1 : ((s.size : Int) == 0) = true := by rw [hz]; rfl
          clear hz
          go_wp2_with (go_at_call 7; refine (HC.out.encOk A ln c _ HR.out (fun x hx => sc_small (HLow.out x hx)) hl100 hcap).mono ?_; rintro e w3 ⟨rfl, hb⟩; rw [HT.out]; have HB3 := Lib.hid (bnext HB1.out hb); clear hb)
          go_ret
          exact ⟨rfl, HB3.out⟩
        · obtain ⟨rb, hrb⟩ : ∃ rb, runesBytes (ints ln) = rb := ⟨_, rfl⟩
          have HRb := Lib.hid hrb
          have hrs : rb.size ≤ 60 := by
            have h1 := congrArg List.length HBy.out
            rw [hrb, List.length_map, HLl.out] at h1
            have h2 : rb.data.toList.length = rb.size := by simp
            omega
          have HT : Hid ((⟨(penc ln).toArray⟩ : ByteArray) = rb ++ ⟨#[45]⟩) := by
            show (⟨(penc ln).toArray⟩ : ByteArray) = rb ++ ⟨#[45]⟩
            refine bytes_eq ?_
            rw [HPp.out, if_neg (by rw [HLl.out]; exact hz), ← HBy.out, hrb]
            simp
          have hz1 : ((s.size : Int) == 0) = false := beq_eq_false_iff_ne.2 (by omega)
          clear hz hrb
          go_wp2_with (go_at_call 7; refine (HC.out.encOk A ln c _ HR.out (fun x hx => sc_small (HLow.out x hx)) hl100 hcap).mono ?_; rintro e w3 ⟨rfl, hb⟩; rw [HT.out]; have hcv := convert_at A ln c _ rb HRb.out (HR.out.below hb); have HB3 := Lib.hid (bnext HB1.out hb); clear hb)
          go_ret
          exact ⟨rfl, HB3.out⟩
  · go_enter Try.func5, Try.ntmps5
    go_wp2_with (go_at_call 6; refine (awake_any HC.out _).mono ?_; rintro e w1 ⟨rfl, hb1⟩)
    go_ret
    exact ⟨rfl, hb1⟩
end Go.Proofs.Ytmnpefpglpabmaa

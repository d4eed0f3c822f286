/-
  The statements UtfOnce and UtfJoins of layer 2, walked: whatever the input, true.
-/
import Derived.Test.YtbehfaeckepplaaLaws
import Derived.Laws.AppendOwnNone
namespace Go.Proofs.Ytbehfaeckepplaa
open Go.RowKit

theorem valid_of {s : ByteArray} {b : Bool} (w : World) (h1 : s.size ≤ 2000) (h : vld s.data.toList = b) :
    Calls Try.prog 12 #[.string s] w fun e w' => e = .returned (.bool b) ∧ Below w.heap.size w w' :=
  (valid_any s w h1).mono fun _ _ ⟨he, hw⟩ => ⟨by rw [he, h], hw⟩

set_option maxHeartbeats 1000000 in
set_option maxRecDepth 100000 in
theorem law_once (s : ByteArray) (w : World) (hs : s.size ≤ maxLen) :
    Calls Try.prog 6 #[.string s] w (Yes w) := by
  unfold maxLen at hs
  by_cases h : s.size ≤ 200
  · have hdl : (dec s.data.toList).length ≤ s.size := by have := dec_length s.data.toList; simpa using this
    have h2 : s.size ≤ 2000 := by omega
    have HSc := Lib.hid (dec_scal s.data.toList)
    obtain ⟨l, hl⟩ : ∃ l, dec s.data.toList = l := ⟨_, rfl⟩
    rw [hl] at hdl HSc
    have h3 : (runesBytes l).size ≤ 2000 := by have := runes_len l; omega
    have HD : Hid (dec (runesBytes l).data.toList = l) := by
      show dec (runesBytes l).data.toList = l
      rw [runes_bytes, ← hl, dec_enc0, dec_fix]
    have HV : Hid (vld (runesBytes l).data.toList = true) := by
      show vld (runesBytes l).data.toList = true
      rw [runes_bytes, vld_enc0]
    have HE : Hid (vld s.data.toList = (s.toList == (runesBytes l).toList)) := by
      show vld s.data.toList = (s.toList == (runesBytes l).toList)
      rw [← enc_dec_eq s (runesBytes l) (by rw [runes_bytes, hl])]
      exact BEq.comm
    have HL := Lib.hid hl
    clear hl
    have hll : l.length ≤ 200 := by omega
    go_enter Try.func6, Try.ntmps6
    go_wp2_with (first
      | (go_at_call 8; refine (awake_any _).mono ?_; rintro e w1 ⟨rfl, hb1⟩)
      | (go_at_call 10; refine (decode_any _ _ h2).mono ?_; rintro e w2 ⟨v, rfl, hm⟩; rw [HL.out] at hm; obtain ⟨A, c, rfl, hr⟩ := hm.runes; have hb2 := hm.2; have HR := Lib.hid hr; clear hr hm)
      | (go_at_call 14; refine (encode_any _ _ _ _ HR.out).mono ?_; rintro e w' ⟨rfl, rfl⟩))
    go_loopw [6] (fun i wr => ∃ k : Nat, k ≤ l.length ∧ i = .int .i64 k ∧ Below w2.heap.size w2 wr) (fun i _ => l.length - (intOf i).toNat)
    case atStart => exact ⟨0, Nat.zero_le _, rfl, Below.refl _ _⟩
    case round =>
      obtain ⟨k, hk, rfl, hb⟩ := hrel
      by_cases hlt : k < l.length
      · obtain ⟨ba, offa, rfl, _, hca⟩ := (HR.out.below hb) k l[k] (List.getElem?_eq_getElem hlt)
        have HS := Lib.hid (HSc.out l[k] (List.getElem_mem _))
        go_wp2_with (go_at_call 16; refine (scalar_true _ _ HS.out).mono ?_; rintro e w' ⟨rfl, rfl⟩)
        go_roundw
        case rel => exact ⟨k + 1, by omega, by go_num, hb⟩
        case measure => simp [intOf]; omega
      · have hle : l.length ≤ s.size := by omega
        have hle' : (l.length : Int) ≤ (s.size : Int) := by omega
        go_wp2_with (first
          | (go_at_call 10; refine (decode_any _ _ h3).mono ?_; rintro e w3 ⟨v, rfl, hm⟩; rw [HD.out] at hm; obtain ⟨B, c', rfl, hr⟩ := hm.runes; have hb3 := hm.2; have HR' := Lib.hid hr; clear hr hm)
          | (go_at_call 9; refine (same_true _ _ _ _ _ _ _ HR'.out ((HR.out.below hb).below hb3) (by omega) rfl).mono ?_; rintro e w4 ⟨rfl, hb4⟩)
          | (go_at_call 12; (with_reducible refine (valid_of (s := runesBytes l) _ h3 HV.out).mono ?_); rintro e w5 ⟨rfl, hb5⟩)
          | (go_at_call 12; (with_reducible refine (valid_of (s := s) _ h2 HE.out).mono ?_); rintro e w6 ⟨rfl, hb6⟩))
        go_ret
        exact ⟨rfl, bnext (bnext (bnext (bnext (bnext (bnext hb1 hb2) hb) hb3) hb4) hb5) hb6⟩
  · go_enter Try.func6, Try.ntmps6
    go_wp2_with (go_at_call 8; refine (awake_any _).mono ?_; rintro e w1 ⟨rfl, hb1⟩)
    go_ret
    exact ⟨rfl, hb1⟩

/-- A slice of runes that lies above a base: its own row. -/
def Row (B : Nat) (w : World) (v : Value) (l : List Int) : Prop := w.ownsRow B 21 1 v l.length (l.map (Value.int .i32))
theorem Row.runes {B : Nat} {w : World} {v : Value} {l : List Int} (h : Row B w v l) : ∃ A c, v = .slice A l.length c ∧ Runes w A l := by
  have h' : w.ownsRow B 21 1 v l.length (l.map (Value.int .i32)) := h
  rcases h.2 with ⟨rfl, h0⟩ | ⟨g, cap, cur, rfl, _⟩
  · rw [h0]
    obtain rfl := List.eq_nil_of_length_eq_zero h0
    exact ⟨none, 0, rfl, fun i s hs => by simp at hs⟩
  · rename_i hh
    refine ⟨_, _, rfl, fun i s hs => ?_⟩
    have hi : i < l.length := (List.getElem?_eq_some_iff.1 hs).1
    have hc := h'.cellAt (g := g) i (by simpa using hi)
    refine ⟨g, 0, rfl, ?_, ?_⟩
    · exact (Array.getElem?_eq_some_iff.1 hh.2.1).1
    · rw [Nat.zero_add, hc, List.getElem?_map, hs]; rfl

theorem Row.below {B : Nat} {w w' : World} {v : Value} {l : List Int} (h : Row B w v l) (hb : Below w.heap.size w w') : Row B w' v l := own_below h hb
theorem Row.of_made {B : Nat} {w w' : World} {v : Value} {l : List Int} (h : Made w w' v l) (hb : B ≤ w.heap.size) : Row B w' v l := by
  obtain ⟨⟨h1, h2⟩, _⟩ := h
  refine ⟨h1, ?_⟩
  rcases h2 with h2 | ⟨g, cap, cur, rfl, hg, hh, r⟩
  · exact .inl h2
  · exact .inr ⟨g, cap, cur, rfl, by omega, hh, r⟩
/-- 'append(s, x...)', both of them rows of runes of the call's own. -/
theorem append_rows {ops : Array Oper} {rest : List Oper} {o : Oper} {a : Act} {Q : Exit → Act → World → Prop} {w : World} (hgd : o.guard = none) (s x : Operand)
    (ho : o.op = .call { callee := .builtin .append, args := #[s, x], argTypes := #[24, 24] })
    (B : Nat) (v vx : Value) (l lx : List Int) (hs : a.eval s = v) (hx : a.eval x = vx) (h1 : Row B w v l) (h2 : Row B w vx lx) (hl : l.length + lx.length ≤ 4000) (hB : B ≤ w.heap.size)
    (h : ∀ v' w', Row B w' v' (l ++ lx) → Below B w w' → wpList Try.prog ops Q rest (a.put o.dst v') w') : wpList Try.prog ops Q (o :: rest) a w := by
  obtain ⟨i0, hi, hz0, hz1, hz2⟩ := info_parts Try.infoR
  have h2' : w.ownsRow B 21 1 vx lx.length (lx.map (Value.int .i32)) := h2
  rcases h2.2 with ⟨rfl, h0⟩ | ⟨g, cap, cur, rfl, _⟩
  · obtain rfl := List.eq_nil_of_length_eq_zero h0
    refine wpList_append_own_none hgd s x _ ho B 21 i0 1 Try.underlying24 hi v _ _ hs h1 hx (h v w (by rw [List.append_nil]; exact h1) (Below.refl _ _))
  · refine wpList_append_own w hgd s x _ ho B 21 i0 _ 1 4 Try.underlying24 hi hz0 hz1 hz2 rfl (by decide) v _ _ hs h1 ⟨g, 0, none⟩ lx.length cap (lx.map (Value.int .i32)) hx (by simp) (fun j u hu => ?_) (fun u hu => ?_) (by simp only [maxLen]; omega) (by omega) hB (fun v' w' hown hg _ => h v' w' ?_ ?_)
    · rw [add_at, Nat.zero_add, h2'.cellAt (g := g) j (by have := (List.getElem?_eq_some_iff.1 hu).1; simpa using this)]
      exact hu
    · obtain ⟨c, _, rfl⟩ := List.mem_map.1 hu
      rfl
    · show w'.ownsRow B 21 1 v' _ _
      rw [List.length_append, List.map_append]; exact hown
    · exact (Below.refl _ _).grown hg hB (own_ge h1)

set_option maxHeartbeats 1000000 in
set_option maxRecDepth 100000 in
theorem law_joins (a b : ByteArray) (w : World) (ha : a.size ≤ maxLen) (hb : b.size ≤ maxLen) :
    Calls Try.prog 7 #[.string a, .string b] w (Yes w) := by
  unfold maxLen at ha hb
  by_cases hsa : a.size ≤ 200
  · by_cases hsb : b.size ≤ 200
    · have h2 : a.size ≤ 2000 := by omega
      have h3 : b.size ≤ 2000 := by omega
      have h4 : (a ++ b).size ≤ 2000 := by rw [ByteArray.size_append]; omega
      by_cases hv : vld a.data.toList = true
      · have HV := Lib.hid hv
        have HJ : Hid (dec (a ++ b).data.toList = dec a.data.toList ++ dec b.data.toList) := by
          show dec (a ++ b).data.toList = dec a.data.toList ++ dec b.data.toList
          rw [ByteArray.data_append, Array.toList_append, dec_append hv]
        have HW : Hid (vld (a ++ b).data.toList = vld b.data.toList) := by
          show vld (a ++ b).data.toList = vld b.data.toList
          rw [ByteArray.data_append, Array.toList_append, vld_append hv]
        clear hv
        go_enter Try.func7, Try.ntmps7
        go_wp2_with (first
          | (go_at_call 8; refine (awake_any _).mono ?_; rintro e w1 ⟨rfl, hb1⟩)
          | (go_at_call 13; refine (refValid_any _ _ h2).mono ?_; rintro e w2 ⟨rfl, hb2⟩; rw [HV.out]))
        have HR0 : Hid (Row w.heap.size (w2.alloc (.cells #[] 21)) (.slice (some ⟨w2.heap.size, 0, none⟩) 0 0) []) := by
          show Row w.heap.size (w2.alloc (.cells #[] 21)) (.slice (some ⟨w2.heap.size, 0, none⟩) 0 0) []
          exact World.ownsRow_lit w2 #[] 0 (bnext hb1 hb2).size (Nat.zero_le _) rfl
        have hb2a : Below w.heap.size w (w2.alloc (.cells #[] 21)) := (bnext hb1 hb2).alloc (bnext hb1 hb2).size _
        have HB := Lib.hid hb2a
        clear hb2a
        have hla : (dec a.data.toList).length ≤ 200 := by have := dec_length a.data.toList; simp at this; omega
        have hlb : (dec b.data.toList).length ≤ 200 := by have := dec_length b.data.toList; simp at this; omega
        obtain ⟨l, hl⟩ : ∃ l, dec a.data.toList ++ dec b.data.toList = l := ⟨_, rfl⟩
        have hll : l.length ≤ 400 := by rw [← hl, List.length_append]; omega
        have HJl := Lib.hid (HJ.out.trans hl)
        have HLn := Lib.hid hl
        clear hl HJ
        go_wp2_with (first
          | (go_at_call 10
             (with_reducible refine (decode_any a _ h2).mono ?_)
             rintro e w3 ⟨va, rfl, hm⟩
             have hb3 := bnext HB.out hm.2
             have HR1 := Lib.hid (HR0.out.below hm.2)
             have HRa := Lib.hid (Row.of_made hm HB.out.size)
             clear hm)
          | (at_builtin
             refine append_rows rfl (.tmp 22) (.tmp 24) rfl w.heap.size _ _ [] _ rfl rfl HR1.out HRa.out ?ha hb3.size ?_
             case ha => simp; omega
             intro v4 w4 hr4 hb4
             rw [List.nil_append] at hr4
             have HR4 := Lib.hid hr4
             have hb4' := hb3.trans hb4
             clear hr4)
          | (go_at_call 10
             (with_reducible refine (decode_any b _ h3).mono ?_)
             rintro e w5 ⟨vb, rfl, hm⟩
             have hb5 := bnext hb4' hm.2
             have HR5 := Lib.hid (HR4.out.below hm.2)
             have HRb := Lib.hid (Row.of_made hm hb4'.size)
             clear hm)
          | (at_builtin
             refine append_rows rfl (.tmp 25) (.tmp 27) rfl w.heap.size _ _ _ _ rfl rfl HR5.out HRb.out ?ha hb5.size ?_
             case ha => omega
             intro v6 w6 hr6 hb6
             rw [HLn.out] at hr6
             obtain ⟨A, c, rfl, hr⟩ := hr6.runes
             have HR6 := Lib.hid hr
             have hb6' := hb5.trans hb6
             clear hr6 hr)
          | (go_at_call 10
             (with_reducible refine (decode_any (a ++ b) _ h4).mono ?_)
             rintro e w7 ⟨v, rfl, hm⟩
             rw [HJl.out] at hm
             obtain ⟨A', c', rfl, hr⟩ := hm.runes
             have HR7 := Lib.hid hr
             have hb7 := hm.2
             clear hm hr)
          | (go_at_call 9
             (with_reducible refine (same_true _ _ _ _ _ _ _ HR7.out (HR6.out.below hb7) (by omega) rfl).mono ?_)
             rintro e w8 ⟨rfl, hb8⟩)
          | (go_at_call 12; (with_reducible refine (valid_of (s := a ++ b) _ h4 HW.out).mono ?_); rintro e w9 ⟨rfl, hb9⟩)
          | (go_at_call 12; (with_reducible refine (valid_any b _ h3).mono ?_); rintro e w10 ⟨rfl, hb10⟩))
        go_ret
        exact ⟨rfl, bnext (bnext (bnext (bnext hb6' hb7) hb8) hb9) hb10⟩
      · have HV := Lib.hid (Bool.eq_false_iff.2 hv)
        clear hv
        go_enter Try.func7, Try.ntmps7
        go_wp2_with (first
          | (go_at_call 8; refine (awake_any _).mono ?_; rintro e w1 ⟨rfl, hb1⟩)
          | (go_at_call 13; refine (refValid_any _ _ h2).mono ?_; rintro e w2 ⟨rfl, hb2⟩; rw [HV.out]))
        go_ret
        exact ⟨rfl, bnext hb1 hb2⟩
    · go_enter Try.func7, Try.ntmps7
      go_wp2_with (go_at_call 8; refine (awake_any _).mono ?_; rintro e w1 ⟨rfl, hb1⟩)
      go_ret
      exact ⟨rfl, hb1⟩
  · go_enter Try.func7, Try.ntmps7
    go_wp2_with (go_at_call 8; refine (awake_any _).mono ?_; rintro e w1 ⟨rfl, hb1⟩)
    go_ret
    exact ⟨rfl, hb1⟩
end Go.Proofs.Ytbehfaeckepplaa

/-
  In this text, one behind the other: QDec, QCon, HCon, LLawsD, LLawsE.
-/
import Derived.Test.YtfaieldafoeaiaaDoorG7
import Derived.Test.YtfaieldafoeaiaaDoorG5
import Derived.Test.YtfaieldafoeaiaaDoorG4
import Derived.Test.YtfaieldafoeaiaaDoorG2
/-
  The program's Decode.
-/
namespace Go.Proofs.YtfaieldafoeaiaaDoor
open Go.RowKit

theorem pdec_nasc {s : ByteArray} (h : ascB s = false) : pdec s.data.toList = none := by
  unfold ascB at h
  rw [Bool.not_eq_false'] at h
  unfold pdec
  rw [h]; rfl
theorem pdec_asc {s : ByteArray} (h : ascB s = true) : pdec s.data.toList = if 0 < hyph s.data.toList then decT s.data.toList.length (s.data.toList.drop ((hyph s.data.toList).toNat + 1)) ((s.data.toList.take (hyph s.data.toList).toNat).map UInt8.toNat) 128 0 72 else decT s.data.toList.length s.data.toList [] 128 0 72 := by
  unfold ascB at h
  rw [Bool.not_eq_true'] at h
  unfold pdec
  rw [h]; rfl
def SplitPost (s : ByteArray) (w : World) (e : Ending) (w' : World) : Prop := ∃ v dg cur, e = .returned (.tuple #[v, .string dg]) ∧ RowN w.heap.size w' v (ints cur) ∧ Below w.heap.size w w' ∧ decT s.size dg.data.toList cur 128 0 72 = pdec s.data.toList ∧ cur.length + dg.size ≤ s.size
theorem qsplit_any (s : ByteArray) (w : World) (hs : s.size ≤ 3000) (ha : ascB s = true) : Calls Tryd.prog 66 #[.string s] w (SplitPost s w) := by
  have hsl : s.data.toList.length = s.size := by simp
  by_cases h : 0 < hyph s.data.toList
  · refine (qsplit_some s w hs h ha).mono ?_
    rintro e w' ⟨v, rfl, hm⟩
    refine ⟨v, _, _, rfl, hm.1, hm.2, ?_, ?_⟩
    · rw [pdec_asc ha, if_pos h, hsl]
    · have hlen : (⟨(s.data.toList.drop ((hyph s.data.toList).toNat + 1)).toArray⟩ : ByteArray).size = s.size - ((hyph s.data.toList).toNat + 1) := by
        show (s.data.toList.drop ((hyph s.data.toList).toNat + 1)).toArray.size = _
        simp
      rw [hlen, List.length_map, List.length_take, hsl]
      omega
  · refine (qsplit_none s w (by omega) h).mono ?_
    rintro e w' ⟨rfl, rfl⟩
    refine ⟨_, s, [], rfl, World.ownsRow_nil _ _ _ _, Below.refl _ _, ?_, by simp⟩
    rw [pdec_asc ha, if_neg h, hsl]

/-- Where the digits of one number stand. -/
def Dig (D : List UInt8) (bias k wt i at_ : Nat) (P : Option (Nat × List UInt8)) : Prop := (wt ≤ 1099511627776 ∧ par (D.drop at_) bias k wt i = P) ∨ (1099511627776 < wt ∧ P = none)
theorem par_none (bias k w i : Nat) : par [] bias k w i = none := by unfold par; rfl
theorem Dig.end_ {D : List UInt8} {bias k wt i at_ : Nat} {P : Option (Nat × List UInt8)} (h : Dig D bias k wt i at_ P) (ha : D.length ≤ at_) : P = none := by
  rcases h with ⟨_, h⟩ | ⟨_, h⟩
  · rw [List.drop_eq_nil_of_le ha, par_none] at h; exact h.symm
  · exact h
theorem Dig.bad {D : List UInt8} {bias k wt i at_ : Nat} {P : Option (Nat × List UInt8)} (h : Dig D bias k wt i at_ P) (ha : at_ < D.length) (hv : dval D[at_].toNat < 0) : P = none := by
  rcases h with ⟨_, h⟩ | ⟨_, h⟩
  · rw [List.drop_eq_getElem_cons ha, par, if_pos hv] at h; exact h.symm
  · exact h
theorem Dig.big {D : List UInt8} {bias k wt i at_ : Nat} {P : Option (Nat × List UInt8)} (h : Dig D bias k wt i at_ P) (ha : at_ < D.length) (hv : ¬ dval D[at_].toNat < 0) (hb : 1099511627776 < i + (dval D[at_].toNat).toNat * wt ∨ 1099511627776 < wt) : P = none := by
  rcases h with ⟨h0, h⟩ | ⟨_, h⟩
  · rw [List.drop_eq_getElem_cons ha, par, if_neg hv, if_pos (by omega)] at h; exact h.symm
  · exact h
theorem Dig.last {D : List UInt8} {bias k wt i at_ : Nat} {P : Option (Nat × List UInt8)} (h : Dig D bias k wt i at_ P) (ha : at_ < D.length) (hv : ¬ dval D[at_].toNat < 0) (hb : ¬ 1099511627776 < i + (dval D[at_].toNat).toNat * wt) (hw : ¬ 1099511627776 < wt) (ht : (dval D[at_].toNat).toNat < thr k bias) : P = some (i + (dval D[at_].toNat).toNat * wt, D.drop (at_ + 1)) := by
  rcases h with ⟨h0, h⟩ | ⟨h, _⟩
  · rw [List.drop_eq_getElem_cons ha, par, if_neg hv, if_neg hb, if_pos ht] at h; exact h.symm
  · omega
theorem Dig.more {D : List UInt8} {bias k wt i at_ : Nat} {P : Option (Nat × List UInt8)} (h : Dig D bias k wt i at_ P) (ha : at_ < D.length) (hv : ¬ dval D[at_].toNat < 0) (hb : ¬ 1099511627776 < i + (dval D[at_].toNat).toNat * wt) (hw : ¬ 1099511627776 < wt) (ht : ¬ (dval D[at_].toNat).toNat < thr k bias) : Dig D bias (k + 36) (wt * (36 - thr k bias)) (i + (dval D[at_].toNat).toNat * wt) (at_ + 1) P := by
  rcases h with ⟨h0, h⟩ | ⟨h, _⟩
  · rw [List.drop_eq_getElem_cons ha, par, if_neg hv, if_neg hb, if_neg ht] at h
    by_cases hg : 1099511627776 < wt * (36 - thr k bias)
    · rw [if_pos hg] at h; exact .inr ⟨hg, h.symm⟩
    · rw [if_neg hg] at h; exact .inl ⟨by omega, h⟩
  · omega
theorem decT_go {f : Nat} {D : List UInt8} {at_ : Nat} {cur : List Nat} {n i bias : Nat} (ha : at_ < D.length) (hf : D.length - at_ ≤ f) : ∃ g, f = g + 1 ∧ decT f (D.drop at_) cur n i bias = match par (D.drop at_) bias 36 1 i with
    | none => none
    | some (j, r) => if sc (n + j / (cur.length + 1)) then decT g r (ins cur (j % (cur.length + 1)) (n + j / (cur.length + 1))) (n + j / (cur.length + 1)) (j % (cur.length + 1) + 1) (adapt (j - i) (cur.length + 1) (i == 0)) else none := by
  obtain ⟨g, rfl⟩ : ∃ g, f = g + 1 := ⟨f - 1, by omega⟩
  refine ⟨g, rfl, ?_⟩
  rw [List.drop_eq_getElem_cons ha]
  rfl
theorem decT_end {f : Nat} {D : List UInt8} {at_ : Nat} {cur : List Nat} {n i bias : Nat} (ha : D.length ≤ at_) : decT f (D.drop at_) cur n i bias = some cur := by
  rw [List.drop_eq_nil_of_le ha]
  cases f <;> rfl
theorem byte_list (s : ByteArray) (k : Nat) (h : k < s.size) : ∃ h' : k < s.data.toList.length, s.data.toList[k] = s[k] := ⟨by simpa using h, rfl⟩

theorem beq0_int (a : Nat) : ((a : Int) == 0) = (a == 0) := by
  by_cases h : a = 0
  · subst h; rfl
  · rw [beq_eq_false_iff_ne.2 h, beq_eq_false_iff_ne.2 (by omega)]
/-- One put, out of a block that was just made. -/
theorem put_new {w wr : World} {A : Option Addr} {cur : List Nat} {c5 r : Nat} {c : Int} (h : RowN w.heap.size wr (.slice A cur.length c5) (ints cur)) (hb : Below w.heap.size w wr) (hi : r ≤ cur.length) (_ : (ints cur).length ≤ 3000) (hl : cur.length ≤ 3000) :
    Calls Tryd.prog 69 #[.slice A cur.length c5, .int .i64 r, .slice (some ⟨wr.heap.size, 0, none⟩) 1 1] (wr.alloc (.cells #[.int .i32 c] 21)) fun e w' => ∃ v', e = .returned v' ∧ RowN w.heap.size w' v' (insI (ints cur) r c) ∧ Below w.heap.size w w' := by
  have hal : Below wr.heap.size wr (wr.alloc (.cells #[.int .i32 c] 21)) := (Below.refl _ _).alloc (Nat.le_refl _) _
  refine (qput_any w.heap.size _ (ints cur) r c wr.heap.size _ (h.below hal) (by have := hb.size; simp; omega) (by rw [ints_length]; exact hi) (by rw [ints_length]; exact hl) (heap_alloc_new _ _) ?_).mono ?_
  · intro e
    have := (World.ownsRow.lt h _ e).2
    omega
  · rintro e w' ⟨v', rfl, h1, h2⟩
    exact ⟨v', rfl, h1, (hb.trans (hal.mono hb.size)).trans h2⟩
def OffPost (w : World) (e : Ending) (w' : World) : Prop := ∃ cs u x, e = .returned (.tuple #[.slice none 0 0, .iface u x]) ∧ Chain w' cs (some 2) (.iface u x) ∧ Below w.heap.size w w'

theorem row_shape {w wr : World} {v : Value} {cur : List Nat} (h : RowN w.heap.size wr v (ints cur)) (hb : Below w.heap.size w wr) : ∃ A cp, v = .slice A cur.length cp ∧ (Runes wr A (ints cur) ∧ cur.length ≤ cp) := by
  have hm : Made w wr v (ints cur) := ⟨h, hb⟩
  obtain ⟨A, cp, e, hr⟩ := hm.runes
  rw [ints_length] at e
  refine ⟨A, cp, e, hr, ?_⟩
  rcases h.2 with ⟨e2, h0⟩ | ⟨g, cap, cu, e2, _, _, h1, _⟩
  · rw [ints_length] at h0; omega
  · rw [e2] at e
    simp only [Value.slice.injEq] at e
    rw [ints_length] at h1
    omega

set_option maxHeartbeats 2000000 in
set_option maxRecDepth 100000 in
theorem dec_any (s : ByteArray) (w : World) (hs : s.size ≤ 3000) : Calls Tryd.prog 45 #[.string s] w (DecPostN (pdec s.data.toList) w) := by
  cases ha : ascB s with
  | false =>
    rw [pdec_nasc ha]
    have HA := Lib.hid ha
    clear ha
    go_enter Tryd.func45, Tryd.ntmps45
    go_wp2
    go_step3
    go_wp2_with (first
      | (go_at_call 65; refine (qasc_any s _ (by omega)).mono ?_; rintro e w1 ⟨rfl, hb1⟩; rw [HA.out]; have HB1 := Lib.hid hb1; clear hb1)
      | (go_at_call 64; refine (qoff_any _).mono ?_; rintro e w2 ⟨rfl, hc2, hb2⟩; have HC2 := Lib.hid (And.intro hc2 hb2); clear hc2 hb2))
    go_ret2
    exact ⟨_, _, _, rfl, HC2.out.1, HB1.out.trans (HC2.out.2.mono HB1.out.size)⟩
  | true =>
    obtain ⟨R, hR⟩ : ∃ R, pdec s.data.toList = R := ⟨_, rfl⟩
    rw [hR]
    have HR := Lib.hid hR
    have HA := Lib.hid ha
    clear ha hR
    go_enter Tryd.func45, Tryd.ntmps45
    go_wp2
    go_step3
    go_wp2_with (first
      | (go_at_call 65; refine (qasc_any s _ (by omega)).mono ?_; rintro e w1 ⟨rfl, hb1⟩; rw [HA.out]; have HB1 := Lib.hid hb1; clear hb1)
      | (go_at_call 66; refine (qsplit_any s _ (by omega) HA.out).mono ?_; rintro e w2 ⟨v0, dg, cur0, rfl, hr0, hb0, hd0, hl0⟩; have H0 := Lib.hid (And.intro hr0 (And.intro hb0 hd0)); clear hr0 hb0 hd0))
    go_step3
    go_wp2
    go_loopw [5, 7, 8, 9, 10] (fun v v7 v8 v9 v10 wr => ∃ (at_ n i bias f : Nat) (cur : List Nat), v7 = .int .i64 n ∧ v8 = .int .i64 i ∧ v9 = .int .i64 bias ∧ v10 = .int .i64 at_ ∧ at_ ≤ dg.size ∧ dg.size - at_ ≤ f ∧ n ≤ 1114111 ∧ i ≤ cur.length ∧ cur.length + dg.size ≤ s.size + at_ ∧ bias ≤ 2199023255552 ∧
      RowN w.heap.size wr v (ints cur) ∧ Below w.heap.size w wr ∧ decT f (dg.data.toList.drop at_) cur n i bias = R) (fun _ _ _ _ v10 _ => dg.size - (intOf v10).toNat)
    case atStart =>
      obtain ⟨g1, g2, g3⟩ := H0.out
      have hb := HB1.out
      refine ⟨0, 128, 0, 72, s.size, cur0, rfl, rfl, rfl, rfl, by omega, by omega, by omega, by omega, by omega, by omega, ?_, hb.trans (g2.mono hb.size), by rw [List.drop_zero, g3, HR.out]⟩
      refine ⟨g1.1, ?_⟩
      rcases g1.2 with h2 | ⟨gk, cap, c2, h3, h4, r⟩
      · exact .inl h2
      · exact .inr ⟨gk, cap, c2, h3, Nat.le_trans hb.size h4, r⟩
    case round =>
      obtain ⟨at0, n, i0, bias, f, cur, rfl, rfl, rfl, rfl, hat0, hf, hn, hi0, hcl, hbi, hrow, hbel, hdec⟩ := hrel
      clear H0
      obtain ⟨A5, c5, hv5, hA5⟩ := row_shape hrow hbel
      subst hv5
      have HA5 := Lib.hid hA5
      have HW := Lib.hid (And.intro hrow hbel)
      clear hrow hbel hA5
      have hdl : dg.data.toList.length = dg.size := by simp
      by_cases hlt0 : at0 < dg.size
      · obtain ⟨f', rfl, hgo⟩ := decT_go (f := f) (D := dg.data.toList) (at_ := at0) (cur := cur) (n := n) (i := i0) (bias := bias) (by omega) (by omega)
        rw [hgo] at hdec
        have HDec := Lib.hid hdec
        clear hdec hgo
        obtain ⟨P, hP⟩ : ∃ P, par (dg.data.toList.drop at0) bias 36 1 i0 = P := ⟨_, rfl⟩
        rw [hP] at HDec
        have HP := Lib.hid hP
        clear hP
        have HDl := Lib.hid hdl
        clear hdl
        go_wp2
        go_loopw [5, 7, 8, 9, 10, 12, 13] (fun v5 v7 v8 v9 v10 v12 v13 wr2 => ∃ (i at_ wt k : Nat), v5 = .slice A5 cur.length c5 ∧ v7 = .int .i64 n ∧ v9 = .int .i64 bias ∧ v8 = .int .i64 i ∧ v10 = .int .i64 at_ ∧ v12 = .int .i64 wt ∧ v13 = .int .i64 k ∧ at0 ≤ at_ ∧ at_ ≤ dg.size ∧ i0 ≤ i ∧ i ≤ 1099511627776 + 3000 ∧ 1 ≤ wt ∧ wt ≤ 38482906972160 ∧ k ≤ 36 + 36 * at_ ∧ wr2 = wr ∧ (at0 < at_ ∨ i = i0) ∧ Dig dg.data.toList bias k wt i at_ P) (fun _ _ _ _ v10 _ _ _ => dg.size - (intOf v10).toNat)
        case atStart => exact ⟨i0, at0, 1, 36, rfl, rfl, rfl, rfl, rfl, rfl, rfl, Nat.le_refl _, by omega, Nat.le_refl _, by omega, by omega, by omega, by omega, rfl, .inr rfl, .inl ⟨by omega, HP.out⟩⟩
        case round =>
          obtain ⟨i, at_, wt, k, rfl, rfl, rfl, rfl, rfl, rfl, rfl, hat1, hat2, hi1, hi2, hw1, hw2, hk, hwr, _, hdig⟩ := hrel
          have := hwr.symm; subst this
          clear hwr
          have HG := Lib.hid hdig
          clear hdig
          by_cases hlt : at_ < dg.size
          · obtain ⟨h', hby⟩ := byte_list dg at_ hlt
            have hrn : P = none → none = R := fun e => by have := HDec.out; rw [e] at this; exact this
            have HRN := Lib.hid hrn
            clear hrn
            by_cases hv : dval (dg[at_]'hlt).toNat < 0
            · have HV : Hid (dvalN (dg[at_]'hlt).toNat = 0 ∧ decide (0 ≤ dval (dg[at_]'hlt).toNat) = false) := ⟨by unfold dvalN; rw [if_neg (by omega)], decide_eq_false (by omega)⟩
              have HRn : Hid (none = R) := HRN.out (HG.out.bad h' (by rw [hby]; exact hv))
              clear hv hby
              go_wp2_with (first
                | (go_at_call 67; refine (qvalue_any _ _).mono ?_; rintro e w' ⟨rfl, rfl⟩; rw [HV.out.1, HV.out.2])
                | (go_at_call 64; refine (qoff_any _).mono ?_; rintro e w2 ⟨rfl, hc2, hb2⟩; have HC2 := Lib.hid (And.intro hc2 hb2); clear hc2 hb2))
              go_ret2
              rw [← HRn.out]
              exact ⟨_, _, _, rfl, HC2.out.1, HW.out.2.trans (HC2.out.2.mono HW.out.2.size)⟩
            · obtain ⟨d, hd⟩ : ∃ d, (dval (dg[at_]'hlt).toNat).toNat = d := ⟨_, rfl⟩
              have hd36 : d < 36 := by rw [← hd]; exact (lower_val _ (by omega)).2.1
              have HV : Hid (dvalN (dg[at_]'hlt).toNat = (d : Int) ∧ decide (0 ≤ dval (dg[at_]'hlt).toNat) = true) := ⟨by unfold dvalN; rw [if_pos (by omega), ← hd]; omega, decide_eq_true (by omega)⟩
              have HX : Hid (¬ dval dg.data.toList[at_].toNat < 0 ∧ (dval dg.data.toList[at_].toNat).toNat = d) := by rw [hby]; exact ⟨hv, hd⟩
              clear hv hd hby
              obtain ⟨p, hp⟩ : ∃ p, d * wt = p := ⟨_, rfl⟩
              have hpb : p ≤ 35 * 38482906972160 := by rw [← hp]; exact Nat.mul_le_mul (by omega) hw2
              have hpi : (d : Int) * (wt : Int) = (p : Int) := by rw [← hp, Int.natCast_mul]
              have HPd := Lib.hid hp
              clear hp
              by_cases hb1 : 1099511627776 < i + p
              · have HRn : Hid (none = R) := HRN.out (HG.out.big h' HX.out.1 (.inl (by rw [HX.out.2, HPd.out]; exact hb1)))
                go_wp2_with (first
                  | (go_at_call 67; refine (qvalue_any _ _).mono ?_; rintro e w' ⟨rfl, rfl⟩; rw [HV.out.1, HV.out.2])
                  | (go_at_call 64; refine (qoff_any _).mono ?_; rintro e w2 ⟨rfl, hc2, hb2⟩; have HC2 := Lib.hid (And.intro hc2 hb2); clear hc2 hb2))
                go_ret2
                rw [← HRn.out]
                exact ⟨_, _, _, rfl, HC2.out.1, HW.out.2.trans (HC2.out.2.mono HW.out.2.size)⟩
              · by_cases hb2 : 1099511627776 < wt
                · have HRn : Hid (none = R) := HRN.out (HG.out.big h' HX.out.1 (.inr hb2))
                  go_wp2_with (first
                    | (go_at_call 67; refine (qvalue_any _ _).mono ?_; rintro e w' ⟨rfl, rfl⟩; rw [HV.out.1, HV.out.2])
                    | (go_at_call 64; refine (qoff_any _).mono ?_; rintro e w2 ⟨rfl, hc2, hb2⟩; have HC2 := Lib.hid (And.intro hc2 hb2); clear hc2 hb2))
                  go_ret2
                  rw [← HRn.out]
                  exact ⟨_, _, _, rfl, HC2.out.1, HW.out.2.trans (HC2.out.2.mono HW.out.2.size)⟩
                · have htp := thr_pos k bias
                  obtain ⟨t, htt⟩ : ∃ t, thr k bias = t := ⟨_, rfl⟩
                  rw [htt] at htp
                  obtain ⟨ht0, ht1⟩ := htp
                  by_cases hdt : d < t
                  · have HLa := Lib.hid (HG.out.last h' HX.out.1 (by rw [HX.out.2, HPd.out]; exact hb1) hb2 (by rw [HX.out.2, htt]; exact hdt))
                    rw [HX.out.2, HPd.out] at HLa
                    have HT := Lib.hid htt
                    clear htt
                    have HD2 := HDec.out
                    rw [HLa.out] at HD2
                    simp only at HD2
                    obtain ⟨q, hq⟩ : ∃ q, (i + p) / (cur.length + 1) = q := ⟨_, rfl⟩
                    obtain ⟨r, hr⟩ : ∃ r, (i + p) % (cur.length + 1) = r := ⟨_, rfl⟩
                    rw [hq, hr] at HD2
                    have hqb : q ≤ i + p := by rw [← hq]; exact Nat.div_le_self _ _
                    have hrb : r < cur.length + 1 := by rw [← hr]; exact Nat.mod_lt _ (by omega)
                    have hqi : ((i : Int) + (p : Int)) / ((cur.length : Int) + 1) = (q : Int) := by rw [← hq, Int.natCast_ediv]; congr 1
                    have hri : ((i : Int) + (p : Int)) % ((cur.length : Int) + 1) = (r : Int) := by rw [← hr, Int.natCast_emod]; congr 1
                    clear hq hr
                    obtain ⟨ib, hib⟩ : ∃ ib, (i0 == 0) = ib := ⟨_, rfl⟩
                    have hibi : ((i0 : Int) == 0) = ib := by rw [← hib]; exact beq0_int i0
                    rw [hib] at HD2
                    have HIB := Lib.hid hib
                    clear hib
                    obtain ⟨dd, hdd⟩ : ∃ dd, i + p - i0 = dd := ⟨_, rfl⟩
                    rw [hdd] at HD2
                    have hddi : (i : Int) + (p : Int) - (i0 : Int) = (dd : Int) := by omega
                    have hddb : dd ≤ 1099511627776 := by omega
                    clear hdd
                    have hsc := sc_scal' (n + q)
                    cases hs2 : sc (n + q) with
                    | false =>
                      rw [hs2] at HD2 hsc
                      have HRn := Lib.hid (show none = R by simpa using HD2)
                      have HSC : Hid (scal ((n : Int) + (q : Int)) = false) := by rw [show ((n : Int) + (q : Int)) = ((n + q : Nat) : Int) by omega]; exact hsc
                      clear HD2 hsc hs2
                      go_wp2_with (first
                        | (go_at_call 67; refine (qvalue_any _ _).mono ?_; rintro e w' ⟨rfl, rfl⟩; rw [HV.out.1, HV.out.2])
                        | (go_at_call 68; refine (qthr_any k bias _ _ _ rfl rfl (by omega) (by omega)).mono ?_; rintro e w' ⟨rfl, rfl⟩; rw [HT.out])
                        | (go_at_call 55; refine (qadapt_any dd (cur.length + 1) ib _ _ _ rfl (by omega) (by omega) (by omega) (by omega)).mono ?_; rintro e w' ⟨rfl, rfl⟩)
                        | (go_at_call 48; refine (qscalar_any _ _).mono ?_; rintro e w' ⟨rfl, rfl⟩; rw [HSC.out])
                        | (go_at_call 64; refine (qoff_any _).mono ?_; rintro e w2 ⟨rfl, hc2, hb2⟩; have HC2 := Lib.hid (And.intro hc2 hb2); clear hc2 hb2))
                      go_ret2
                      rw [← HRn.out]
                      exact ⟨_, _, _, rfl, HC2.out.1, HW.out.2.trans (HC2.out.2.mono HW.out.2.size)⟩
                    | true =>
                      rw [hs2] at HD2 hsc
                      rw [if_pos rfl] at HD2
                      have HSC : Hid (scal ((n : Int) + (q : Int)) = true) := by rw [show ((n : Int) + (q : Int)) = ((n + q : Nat) : Int) by omega]; exact hsc
                      have hnq := sc_lt hs2
                      have HD3 := Lib.hid HD2
                      clear HD2 hsc hs2
                      have had := adapt_le dd (cur.length + 1) ib
                      obtain ⟨ad, hade⟩ : ∃ ad, adapt dd (cur.length + 1) ib = ad := ⟨_, rfl⟩
                      rw [hade] at had HD3
                      have HAd := Lib.hid hade
                      clear hade
                      go_wp2_with (first
                        | (go_at_call 67; refine (qvalue_any _ _).mono ?_; rintro e w' ⟨rfl, rfl⟩; rw [HV.out.1, HV.out.2])
                        | (go_at_call 68; refine (qthr_any k bias _ _ _ rfl rfl (by omega) (by omega)).mono ?_; rintro e w' ⟨rfl, rfl⟩; rw [HT.out])
                        | (go_at_call 55; refine (qadapt_any dd (cur.length + 1) ib _ _ _ rfl (by omega) (by omega) (by omega) (by omega)).mono ?_; rintro e w' ⟨rfl, rfl⟩; rw [HAd.out])
                        | (go_at_call 48; refine (qscalar_any _ _).mono ?_; rintro e w' ⟨rfl, rfl⟩; rw [HSC.out])
                        | (go_at_call 69
                           refine (put_new HW.out.1 HW.out.2 (by omega) (by rw [ints_length]; omega) (by omega)).mono ?_
                           rintro e w3 ⟨v', rfl, hr3, hb3⟩
                           have HW3 := Lib.hid (And.intro hr3 hb3)
                           clear hr3 hb3))
                      go_roundw
                      case rel =>
                        refine ⟨at_ + 1, n + q, r + 1, ad, f', ins cur r (n + q), by go_num, by go_num, rfl, by go_num, by omega, by omega, by omega, by rw [ins_length]; omega, by rw [ins_length]; omega, by omega, ?_, HW3.out.2, HD3.out⟩
                        have h3 := HW3.out.1
                        rw [show (n : Int) + (q : Int) = ((n + q : Nat) : Int) by omega, insI_ints] at h3
                        exact h3
                      case measure => simp [intOf]; omega
                  · have HM := Lib.hid (HG.out.more h' HX.out.1 (by rw [HX.out.2, HPd.out]; exact hb1) hb2 (by rw [HX.out.2, htt]; exact hdt))
                    rw [HX.out.2, HPd.out, htt] at HM
                    have HT := Lib.hid htt
                    clear htt
                    obtain ⟨w9, hw9⟩ : ∃ w9, wt * (36 - t) = w9 := ⟨_, rfl⟩
                    rw [hw9] at HM
                    have hw9b : w9 ≤ 1099511627776 * 35 := by rw [← hw9]; exact Nat.mul_le_mul (by omega) (by omega)
                    have hw90 : 1 ≤ w9 := by rw [← hw9]; exact Nat.mul_pos (by omega) (by omega)
                    have hw9i : (wt : Int) * (36 - (t : Int)) = (w9 : Int) := by
                      rw [← hw9, Int.natCast_mul]
                      congr 1
                      omega
                    clear hw9
                    go_wp2_with (first
                      | (go_at_call 67; refine (qvalue_any _ _).mono ?_; rintro e w' ⟨rfl, rfl⟩; rw [HV.out.1, HV.out.2])
                      | (go_at_call 68; refine (qthr_any k bias _ _ _ rfl rfl (by omega) (by omega)).mono ?_; rintro e w' ⟨rfl, rfl⟩; rw [HT.out]))
                    go_roundw
                    case rel => exact ⟨i + p, at_ + 1, w9, k + 36, rfl, rfl, rfl, by go_num, by go_num, by go_num, by go_num, by omega, by omega, by omega, by omega, by omega, by omega, by omega, by first | rfl | trivial, .inl (by omega), HM.out⟩
                    case measure => simp [intOf]; omega
          · have HPn : Hid (P = none) := HG.out.end_ (by rw [HDl.out]; omega)
            have HRn : Hid (none = R) := by have := HDec.out; rw [HPn.out] at this; exact this
            go_wp2_with (go_at_call 64; refine (qoff_any _).mono ?_; rintro e w2 ⟨rfl, hc2, hb2⟩; have HC2 := Lib.hid (And.intro hc2 hb2); clear hc2 hb2)
            go_ret2
            rw [← HRn.out]
            exact ⟨_, _, _, rfl, HC2.out.1, HW.out.2.trans (HC2.out.2.mono HW.out.2.size)⟩
      · have HRs : Hid (some cur = R) := by rw [← hdec, decT_end (by omega)]; exact rfl
        clear hdec hdl
        go_wp2
        go_ret2
        rw [← HRs.out]
        exact ⟨A5, c5, rfl, HA5.out.1, HA5.out.2, HW.out.2⟩
end Go.Proofs.YtfaieldafoeaiaaDoor

/-
  The program's Encode and Decode do as the document says.
-/
namespace Go.Proofs.YtfaieldafoeaiaaDoor
theorem punyC : PunyC := ⟨fun A ln cap w h hs hl _ => enc_ok A ln cap w h hs hl, fun A l cap w h hr hb hl _ => enc_bad A l cap w h hr hb hl, fun s w hs => dec_any s w hs⟩
end Go.Proofs.YtfaieldafoeaiaaDoor

/-
  The program's One and All keep their contracts.
-/
namespace Go.Proofs.YtfaieldafoeaiaaDoor
open Go.RowKit

theorem all_p (A : Option Addr) (l : List Int) (cap : Nat) (w : World) (hv : Vars w) (hg : ∀ c ∈ l, R32 c) (hr : Runes w A l) (hl : l.length ≤ 1400) (hfit : ∀ f, foldL l = some f → Fit f) :
    Calls Tryd.prog 6 #[.slice A l.length cap] w (TextPost (lall l).1 (lall l).2 w) := by
  cases hf : foldL l with
  | none =>
    rw [all_bad hf]
    exact all_bad_p A l cap w hv hg hr hl hf
  | some f => exact all_good_p punyC A l cap w hv hg hr hl f hf (hfit f hf)
theorem labelC (w0 : World) (hv : Vars w0) : LabelC w0 where
  one A l cap w hb hg hr hl hc := one_p punyC A l cap w (hv.below hb) hr ⟨hg, .inl (by omega)⟩ hc.1
  all A l cap w hb hg hr hl _ := all_p A l cap w (hv.below hb) hg hr (by omega) (fun f hf => ⟨fold_rng hf, .inl (by have := fold_length hf; omega)⟩)
  low A l cap w hb hr hs hl _ := all_p A l cap w (hv.below hb) (fun c hc => by have := hs c hc; unfold R32; omega) hr hl (fun f hf => by
    rw [fold_small hs] at hf
    cases hf
    refine ⟨fun c hc => ?_, .inr ⟨?_, by rw [List.length_map]; exact hl⟩⟩
    · obtain ⟨x, hx, rfl⟩ := List.mem_map.1 hc
      have := lowc_small (hs x hx)
      unfold R32
      omega
    · unfold plainL
      rw [List.all_eq_true]
      intro c hc
      obtain ⟨x, hx, rfl⟩ := List.mem_map.1 hc
      have := lowc_small (hs x hx)
      simp
      omega)
end Go.Proofs.YtfaieldafoeaiaaDoor

/-
  LabelOne, LabelAll, LabelFolds, walked over the program's contracts: whatever the input, true.
-/
namespace Go.Proofs.YtfaieldafoeaiaaDoor
open Go.RowKit

theorem lall_no (l : List Int) {n : Nat} {s : List UInt8} (h : lall l = (n, s)) : (n = 0) ∨ (n = 2 ∧ s = []) ∨ (n = 3 ∧ s = []) := by
  unfold lall at h
  cases hf : foldL l with
  | none => rw [hf] at h; cases h; exact .inr (.inl ⟨rfl, rfl⟩)
  | some f =>
    rw [hf] at h
    cases hm : mapOne (partsOf f) with
    | none => simp only [hm] at h; cases h; exact .inr (.inl ⟨rfl, rfl⟩)
    | some xs =>
      simp only [hm] at h
      split at h
      · cases h; exact .inr (.inr ⟨rfl, rfl⟩)
      · cases h; exact .inl rfl
theorem fit_of {w w' : World} {v : Value} {l : List Int} {A : Option Addr} {c : Nat} (h : Made w w' v l) (hv : v = .slice A l.length c) : l.length ≤ c ∧ (A = none → c = 0) := by
  rcases made_cap h hv with ⟨h1, h2, h3⟩ | ⟨⟨g, h1⟩, h2, _⟩
  · exact ⟨by omega, fun _ => h3⟩
  · exact ⟨h2, fun e => by rw [h1] at e; cases e⟩

end Go.Proofs.YtfaieldafoeaiaaDoor

/-
  LabelParts, walked over the program's contracts: whatever the input, true.
-/
namespace Go.Proofs.YtfaieldafoeaiaaDoor
open Go.RowKit

theorem rowN_runes6 {B : Nat} {w : World} {v : Value} {l : List Int} (h : RowN B w v l) : ∃ A c, v = .slice A l.length c ∧ Runes w A l ∧ (l.length ≤ c ∧ (A = none → c = 0)) := by
  have h' : w.ownsRow B 21 1 v l.length (l.map (Value.int .i32)) := h
  rcases h.2 with ⟨rfl, h0⟩ | ⟨g, cap, cur, rfl, hh⟩
  · obtain rfl := List.eq_nil_of_length_eq_zero h0
    exact ⟨none, 0, rfl, fun i s hs => by simp at hs, Nat.le_refl _, fun _ => rfl⟩
  · refine ⟨_, _, rfl, fun i s hs => ?_, hh.2.2.1, fun e => by cases e⟩
    have hi : i < l.length := (List.getElem?_eq_some_iff.1 hs).1
    have hc := h'.cellAt (g := g) i (by simpa using hi)
    refine ⟨g, 0, rfl, (Array.getElem?_eq_some_iff.1 hh.2.1).1, ?_⟩
    rw [Nat.zero_add, hc, List.getElem?_map, hs]; rfl
def Told (t : ByteArray) (w : World) (e : Ending) (w' : World) : Prop := e = .returned (.tuple #[.string t, .nilIface]) ∧ Below w.heap.size w w'
def Barr (n : Int) (w : World) (e : Ending) (w' : World) : Prop := ∃ cs u x, e = .returned (.tuple #[.string ⟨#[]⟩, .iface u x]) ∧ Chain w' cs (some n) (.iface u x) ∧ Below w.heap.size w w'

set_option maxHeartbeats 2000000 in
set_option maxRecDepth 100000 in
theorem law_lparts (A : Option Addr) (a : List Int) (ca : Nat) (B : Option Addr) (b : List Int) (cb : Nat) (w : World) (hra : Runes w A a) (hsa : a.length ≤ maxLen) (hca : a.length ≤ ca ∧ (A = none → ca = 0)) (hrga : ∀ c ∈ a, -2147483648 ≤ c ∧ c < 2147483648)
    (hrb : Runes w B b) (hsb : b.length ≤ maxLen) (hcb : b.length ≤ cb ∧ (B = none → cb = 0)) (hrgb : ∀ c ∈ b, -2147483648 ≤ c ∧ c < 2147483648) (hg : Ready w) (C : LabelC w) :
    Calls Tryd.prog 4 #[.slice A a.length ca, .slice B b.length cb] w (Yes w) := by
  unfold maxLen at hsa hsb
  have HC := Lib.hid C
  have HRa := Lib.hid hra
  have HRb := Lib.hid hrb
  have HCa := Lib.hid hca
  have HCb := Lib.hid hcb
  have HG := Lib.hid hg
  have HGa : Hid (∀ c ∈ a, R32 c) := hrga
  have HGb : Hid (∀ c ∈ b, R32 c) := hrgb
  have HGab : Hid (∀ c ∈ a ++ 46 :: b, R32 c) := rng_app hrga (fun c hc => (List.mem_cons.1 hc).elim (fun e => by rw [e]; unfold R32; omega) (hrgb c))
  clear C hra hrb hca hcb hg hrga hrgb
  by_cases ha : a.length ≤ 60
  · by_cases hb : b.length ≤ 60
    · have HA : Hid (∀ w1, Below w.heap.size w w1 → Runes w1 A a → Calls Tryd.prog 6 #[.slice A a.length ca] w1 (TextPost (lall a).1 (lall a).2 w1)) := fun w1 hb1 h1 => HC.out.all A a ca w1 hb1 HGa.out h1 (by omega) HCa.out
      have HB_ : Hid (∀ w1, Below w.heap.size w w1 → Runes w1 B b → Calls Tryd.prog 6 #[.slice B b.length cb] w1 (TextPost (lall b).1 (lall b).2 w1)) := fun w1 hb1 h1 => HC.out.all B b cb w1 hb1 HGb.out h1 (by omega) HCb.out
      obtain ⟨ab, hab⟩ : ∃ ab, a ++ 46 :: b = ab := ⟨_, rfl⟩
      rw [hab] at HGab
      have hal : ab.length = a.length + b.length + 1 := by rw [← hab, List.length_append, List.length_cons]; omega
      have HU : Hid (∀ Y c w1, Below w.heap.size w w1 → Runes w1 Y ab → (ab.length ≤ c ∧ (Y = none → c = 0)) → Calls Tryd.prog 6 #[.slice Y ab.length c] w1 (TextPost (lall ab).1 (lall ab).2 w1)) := fun Y c w1 hb1 h1 h2 => HC.out.all Y ab c w1 hb1 HGab.out h1 (by omega) h2
      have HAb := Lib.hid (show ([] ++ a ++ [46]) ++ b = ab by rw [← hab]; simp)
      clear hal
      obtain ⟨na, sa, hna⟩ : ∃ n s, lall a = (n, s) := ⟨_, _, rfl⟩
      obtain ⟨nb, sb, hnb⟩ : ∃ n s, lall b = (n, s) := ⟨_, _, rfl⟩
      obtain ⟨nu, su, hnu⟩ : ∃ n s, lall ab = (n, s) := ⟨_, _, rfl⟩
      have hsp : na = 2 ∨ nb = 2 → nu ≠ 0 := by
        intro h
        have := all_spoilt (a := a) (b := b) (by rw [hna, hnb]; exact h)
        rw [hab, hnu] at this
        exact this
      have hpt : na = 0 → nb = 0 → nu = 0 ∧ su = sa ++ 46 :: sb := by
        rintro rfl rfl
        have := all_parts hna hnb
        rw [hab, hnu] at this
        cases this
        exact ⟨rfl, rfl⟩
      rw [hna] at HA
      rw [hnb] at HB_
      rw [hnu] at HU
      have hla := fun h0 : na = 0 => lall_len6 (h0 ▸ hna) ha
      have hlb := fun h0 : nb = 0 => lall_len6 (h0 ▸ hnb) hb
      have hca3 := lall_no a hna
      have hcb3 := lall_no b hnb
      clear hna hnb hnu hab
      obtain ⟨ta, hta⟩ : ∃ t : ByteArray, (⟨sa.toArray⟩ : ByteArray) = t := ⟨_, rfl⟩
      obtain ⟨tb, htb⟩ : ∃ t : ByteArray, (⟨sb.toArray⟩ : ByteArray) = t := ⟨_, rfl⟩
      have HTa := Lib.hid hta
      have HTb := Lib.hid htb
      rcases hca3 with rfl | ⟨rfl, rfl⟩ | ⟨rfl, rfl⟩
      · rcases hcb3 with rfl | ⟨rfl, rfl⟩ | ⟨rfl, rfl⟩
        · obtain ⟨rfl, rfl⟩ := hpt rfl rfl
          have hl1 := hla rfl
          have hl2 := hlb rfl
          have hs1 : ta.size ≤ 1400 := by rw [← hta]; show sa.toArray.size ≤ 1400; simpa using hl1
          have hs2 : tb.size ≤ 1400 := by rw [← htb]; show sb.toArray.size ≤ 1400; simpa using hl2
          have HTu : Hid ((⟨(sa ++ 46 :: sb).toArray⟩ : ByteArray) = ta ++ ⟨#[46]⟩ ++ tb) := by
            show (⟨(sa ++ 46 :: sb).toArray⟩ : ByteArray) = ta ++ ⟨#[46]⟩ ++ tb
            rw [← hta, ← htb]
            exact bytes_eq6 (by simp)
          clear hsp hpt hla hlb hl1 hl2 hta htb
          go_enter Tryd.func4, Tryd.ntmps4
          go_wp2_with (first
            | (go_at_call 5; refine (awake6 HC.out).mono ?_; rintro e w1 ⟨rfl, hbb⟩; have HB := Lib.hid hbb; clear hbb)
            | (go_at_call 6; (with_reducible refine (HA.out _ HB.out (HRa.out.below HB.out)).mono ?_); rintro e w2 ⟨rfl, hbb⟩; (first | rw [HTa.out] | simp only [HTa.out]); have HB := Lib.hid (bnext HB.out hbb); clear hbb)
            | (go_at_call 6; (with_reducible refine (HB_.out _ HB.out (HRb.out.below HB.out)).mono ?_); rintro e w3 ⟨rfl, hbb⟩; (first | rw [HTb.out] | simp only [HTb.out]); have HB := Lib.hid (bnext HB.out hbb); clear hbb)
            | (at_builtin
               refine append_from rfl (.tmp 34) (.tmp 35) rfl w3.heap.size _ [] A a.length ca a rfl rfl (rowN_new w3) ((HRa.out.below HB.out).below ((Below.refl _ _).alloc (Nat.le_refl _) _)) rfl HCa.out.2 ?q1 ?q2 ?_
               case q1 => simp; omega
               case q2 => simp
               intro v4 w4 hr4 hb4
               have HR4 := Lib.hid hr4
               have HB4 := Lib.hid (((Below.refl w3.heap.size w3).alloc (Nat.le_refl _) _).trans hb4)
               clear hr4 hb4)
            | (at_builtin
               refine append_from rfl (.tmp 36) (.tmp 37) rfl w3.heap.size v4 _ (some ⟨w4.heap.size, 0, none⟩) 1 1 [46] rfl rfl (HR4.out.below ((Below.refl _ _).alloc (Nat.le_refl _) _)) (runes_one w4 46) rfl (by simp) ?q3 ?q4 ?_
               case q3 => simp; omega
               case q4 => have := HB4.out.size; simp; omega
               intro v5 w5 hr5 hb5
               have HR5 := Lib.hid hr5
               have HB5 := Lib.hid (HB4.out.trans (((Below.refl _ _).alloc HB4.out.size _).trans hb5))
               clear hr5 hb5)
            | (at_builtin
               refine append_from rfl (.tmp 38) (.tmp 39) rfl w3.heap.size v5 _ B b.length cb b rfl rfl HR5.out (HRb.out.below (bnext HB.out HB5.out)) rfl HCb.out.2 ?q5 HB5.out.size ?_
               case q5 => simp; omega
               intro v6 w6 hr6 hb6
               rw [HAb.out] at hr6
               obtain ⟨A6, c6, e6, hrr6, hcc6⟩ := rowN_runes6 hr6
               subst e6
               have HR6 := Lib.hid hrr6
               have HC6 := Lib.hid hcc6
               have hb36 := HB5.out.trans hb6
               have HB := Lib.hid (bnext HB.out hb36)
               clear hr6 hb6 hrr6 hcc6 hb36)
            | (go_at_call 6; (with_reducible refine (HU.out A6 c6 _ HB.out HR6.out HC6.out).mono ?_); rintro e w7 ⟨rfl, hbb⟩; (first | rw [HTu.out] | simp only [HTu.out]); have HB := Lib.hid (bnext HB.out hbb); clear hbb))
          go_ret
          exact ⟨rfl, HB.out⟩
        · clear hpt hla hlb hta htb
          obtain ⟨m, rfl⟩ : ∃ m, nu = m + 1 := ⟨nu - 1, by have := hsp (by simp); omega⟩
          clear hsp
          go_enter Tryd.func4, Tryd.ntmps4
          go_wp2_with (first
            | (go_at_call 5; refine (awake6 HC.out).mono ?_; rintro e w1 ⟨rfl, hbb⟩; have HB := Lib.hid hbb; clear hbb)
            | (go_at_call 6; (with_reducible refine (HA.out _ HB.out (HRa.out.below HB.out)).mono ?_); rintro e w2 ⟨rfl, hbb⟩; (first | rw [HTa.out] | simp only [HTa.out]); have HB := Lib.hid (bnext HB.out hbb); clear hbb)
            | (go_at_call 6; (with_reducible refine (HB_.out _ HB.out (HRb.out.below HB.out)).mono ?_); rintro e w3 ⟨cs3, u3, x3, rfl, hch, hbb⟩; have HCB := Lib.hid hch; have HB := Lib.hid (bnext HB.out hbb); clear hbb hch)
            | (at_builtin
               refine append_from rfl (.tmp 34) (.tmp 35) rfl w3.heap.size _ [] A a.length ca a rfl rfl (rowN_new w3) ((HRa.out.below HB.out).below ((Below.refl _ _).alloc (Nat.le_refl _) _)) rfl HCa.out.2 ?q1 ?q2 ?_
               case q1 => simp; omega
               case q2 => simp
               intro v4 w4 hr4 hb4
               have HR4 := Lib.hid hr4
               have HB4 := Lib.hid (((Below.refl w3.heap.size w3).alloc (Nat.le_refl _) _).trans hb4)
               clear hr4 hb4)
            | (at_builtin
               refine append_from rfl (.tmp 36) (.tmp 37) rfl w3.heap.size v4 _ (some ⟨w4.heap.size, 0, none⟩) 1 1 [46] rfl rfl (HR4.out.below ((Below.refl _ _).alloc (Nat.le_refl _) _)) (runes_one w4 46) rfl (by simp) ?q3 ?q4 ?_
               case q3 => simp; omega
               case q4 => have := HB4.out.size; simp; omega
               intro v5 w5 hr5 hb5
               have HR5 := Lib.hid hr5
               have HB5 := Lib.hid (HB4.out.trans (((Below.refl _ _).alloc HB4.out.size _).trans hb5))
               clear hr5 hb5)
            | (at_builtin
               refine append_from rfl (.tmp 38) (.tmp 39) rfl w3.heap.size v5 _ B b.length cb b rfl rfl HR5.out (HRb.out.below (bnext HB.out HB5.out)) rfl HCb.out.2 ?q5 HB5.out.size ?_
               case q5 => simp; omega
               intro v6 w6 hr6 hb6
               rw [HAb.out] at hr6
               obtain ⟨A6, c6, e6, hrr6, hcc6⟩ := rowN_runes6 hr6
               subst e6
               have HR6 := Lib.hid hrr6
               have HC6 := Lib.hid hcc6
               have hb36 := HB5.out.trans hb6
               have HCB := Lib.hid (HCB.out.below hb36)
               have HB := Lib.hid (bnext HB.out hb36)
               clear hr6 hb6 hrr6 hcc6 hb36)
            | (go_at_call 6; (with_reducible refine (HU.out A6 c6 _ HB.out HR6.out HC6.out).mono ?_); rintro e w7 ⟨cs7, u7, x7, rfl, hch, hbb⟩; have HCB := Lib.hid (HCB.out.below hbb); have HB := Lib.hid (bnext HB.out hbb); clear hbb hch)
            | (go_at_call 8; (with_reducible refine (code_nil _).mono ?_); rintro e w' ⟨rfl, rfl⟩)
            | (go_at_call 8; (with_reducible refine (code_some cs3 2 u3 x3 _ HCB.out (HG.out.below HB.out)).mono ?_); rintro e w9 ⟨rfl, hbb⟩; have HB := Lib.hid (bnext HB.out hbb); clear hbb))
          go_ret
          exact ⟨rfl, HB.out⟩
        · clear hpt hla hlb hta htb
          clear hsp
          cases nu with
          | zero =>
            obtain ⟨tu, htu⟩ : ∃ t : ByteArray, (⟨su.toArray⟩ : ByteArray) = t := ⟨_, rfl⟩
            have HTu := Lib.hid htu
            clear htu
            go_enter Tryd.func4, Tryd.ntmps4
            go_wp2_with (first
              | (go_at_call 5; refine (awake6 HC.out).mono ?_; rintro e w1 ⟨rfl, hbb⟩; have HB := Lib.hid hbb; clear hbb)
              | (go_at_call 6; (with_reducible refine (HA.out _ HB.out (HRa.out.below HB.out)).mono ?_); rintro e w2 ⟨rfl, hbb⟩; (first | rw [HTa.out] | simp only [HTa.out]); have HB := Lib.hid (bnext HB.out hbb); clear hbb)
              | (go_at_call 6; (with_reducible refine (HB_.out _ HB.out (HRb.out.below HB.out)).mono ?_); rintro e w3 ⟨cs3, u3, x3, rfl, hch, hbb⟩; have HCB := Lib.hid hch; have HB := Lib.hid (bnext HB.out hbb); clear hbb hch)
              | (at_builtin
                 refine append_from rfl (.tmp 34) (.tmp 35) rfl w3.heap.size _ [] A a.length ca a rfl rfl (rowN_new w3) ((HRa.out.below HB.out).below ((Below.refl _ _).alloc (Nat.le_refl _) _)) rfl HCa.out.2 ?q1 ?q2 ?_
                 case q1 => simp; omega
                 case q2 => simp
                 intro v4 w4 hr4 hb4
                 have HR4 := Lib.hid hr4
                 have HB4 := Lib.hid (((Below.refl w3.heap.size w3).alloc (Nat.le_refl _) _).trans hb4)
                 clear hr4 hb4)
              | (at_builtin
                 refine append_from rfl (.tmp 36) (.tmp 37) rfl w3.heap.size v4 _ (some ⟨w4.heap.size, 0, none⟩) 1 1 [46] rfl rfl (HR4.out.below ((Below.refl _ _).alloc (Nat.le_refl _) _)) (runes_one w4 46) rfl (by simp) ?q3 ?q4 ?_
                 case q3 => simp; omega
                 case q4 => have := HB4.out.size; simp; omega
                 intro v5 w5 hr5 hb5
                 have HR5 := Lib.hid hr5
                 have HB5 := Lib.hid (HB4.out.trans (((Below.refl _ _).alloc HB4.out.size _).trans hb5))
                 clear hr5 hb5)
              | (at_builtin
                 refine append_from rfl (.tmp 38) (.tmp 39) rfl w3.heap.size v5 _ B b.length cb b rfl rfl HR5.out (HRb.out.below (bnext HB.out HB5.out)) rfl HCb.out.2 ?q5 HB5.out.size ?_
                 case q5 => simp; omega
                 intro v6 w6 hr6 hb6
                 rw [HAb.out] at hr6
                 obtain ⟨A6, c6, e6, hrr6, hcc6⟩ := rowN_runes6 hr6
                 subst e6
                 have HR6 := Lib.hid hrr6
                 have HC6 := Lib.hid hcc6
                 have hb36 := HB5.out.trans hb6
                 have HCB := Lib.hid (HCB.out.below hb36)
                 have HB := Lib.hid (bnext HB.out hb36)
                 clear hr6 hb6 hrr6 hcc6 hb36)
              | (go_at_call 6; (with_reducible refine (HU.out A6 c6 _ HB.out HR6.out HC6.out).mono ?_); rintro e w7 ⟨rfl, hbb⟩; (first | rw [HTu.out] | simp only [HTu.out]); have HCB := Lib.hid (HCB.out.below hbb); have HB := Lib.hid (bnext HB.out hbb); clear hbb)
              | (go_at_call 8; (with_reducible refine (code_nil _).mono ?_); rintro e w' ⟨rfl, rfl⟩)
              | (go_at_call 8; (with_reducible refine (code_some cs3 3 u3 x3 _ HCB.out (HG.out.below HB.out)).mono ?_); rintro e w9 ⟨rfl, hbb⟩; have HB := Lib.hid (bnext HB.out hbb); clear hbb))
            go_ret
            exact ⟨rfl, HB.out⟩
          | succ m =>
            go_enter Tryd.func4, Tryd.ntmps4
            go_wp2_with (first
              | (go_at_call 5; refine (awake6 HC.out).mono ?_; rintro e w1 ⟨rfl, hbb⟩; have HB := Lib.hid hbb; clear hbb)
              | (go_at_call 6; (with_reducible refine (HA.out _ HB.out (HRa.out.below HB.out)).mono ?_); rintro e w2 ⟨rfl, hbb⟩; (first | rw [HTa.out] | simp only [HTa.out]); have HB := Lib.hid (bnext HB.out hbb); clear hbb)
              | (go_at_call 6; (with_reducible refine (HB_.out _ HB.out (HRb.out.below HB.out)).mono ?_); rintro e w3 ⟨cs3, u3, x3, rfl, hch, hbb⟩; have HCB := Lib.hid hch; have HB := Lib.hid (bnext HB.out hbb); clear hbb hch)
              | (at_builtin
                 refine append_from rfl (.tmp 34) (.tmp 35) rfl w3.heap.size _ [] A a.length ca a rfl rfl (rowN_new w3) ((HRa.out.below HB.out).below ((Below.refl _ _).alloc (Nat.le_refl _) _)) rfl HCa.out.2 ?q1 ?q2 ?_
                 case q1 => simp; omega
                 case q2 => simp
                 intro v4 w4 hr4 hb4
                 have HR4 := Lib.hid hr4
                 have HB4 := Lib.hid (((Below.refl w3.heap.size w3).alloc (Nat.le_refl _) _).trans hb4)
                 clear hr4 hb4)
              | (at_builtin
                 refine append_from rfl (.tmp 36) (.tmp 37) rfl w3.heap.size v4 _ (some ⟨w4.heap.size, 0, none⟩) 1 1 [46] rfl rfl (HR4.out.below ((Below.refl _ _).alloc (Nat.le_refl _) _)) (runes_one w4 46) rfl (by simp) ?q3 ?q4 ?_
                 case q3 => simp; omega
                 case q4 => have := HB4.out.size; simp; omega
                 intro v5 w5 hr5 hb5
                 have HR5 := Lib.hid hr5
                 have HB5 := Lib.hid (HB4.out.trans (((Below.refl _ _).alloc HB4.out.size _).trans hb5))
                 clear hr5 hb5)
              | (at_builtin
                 refine append_from rfl (.tmp 38) (.tmp 39) rfl w3.heap.size v5 _ B b.length cb b rfl rfl HR5.out (HRb.out.below (bnext HB.out HB5.out)) rfl HCb.out.2 ?q5 HB5.out.size ?_
                 case q5 => simp; omega
                 intro v6 w6 hr6 hb6
                 rw [HAb.out] at hr6
                 obtain ⟨A6, c6, e6, hrr6, hcc6⟩ := rowN_runes6 hr6
                 subst e6
                 have HR6 := Lib.hid hrr6
                 have HC6 := Lib.hid hcc6
                 have hb36 := HB5.out.trans hb6
                 have HCB := Lib.hid (HCB.out.below hb36)
                 have HB := Lib.hid (bnext HB.out hb36)
                 clear hr6 hb6 hrr6 hcc6 hb36)
              | (go_at_call 6; (with_reducible refine (HU.out A6 c6 _ HB.out HR6.out HC6.out).mono ?_); rintro e w7 ⟨cs7, u7, x7, rfl, hch, hbb⟩; have HCB := Lib.hid (HCB.out.below hbb); have HB := Lib.hid (bnext HB.out hbb); clear hbb hch)
              | (go_at_call 8; (with_reducible refine (code_nil _).mono ?_); rintro e w' ⟨rfl, rfl⟩)
              | (go_at_call 8; (with_reducible refine (code_some cs3 3 u3 x3 _ HCB.out (HG.out.below HB.out)).mono ?_); rintro e w9 ⟨rfl, hbb⟩; have HB := Lib.hid (bnext HB.out hbb); clear hbb))
            go_ret
            exact ⟨rfl, HB.out⟩
      · rcases hcb3 with rfl | ⟨rfl, rfl⟩ | ⟨rfl, rfl⟩
        · clear hpt hla hlb hta htb
          obtain ⟨m, rfl⟩ : ∃ m, nu = m + 1 := ⟨nu - 1, by have := hsp (by simp); omega⟩
          clear hsp
          go_enter Tryd.func4, Tryd.ntmps4
          go_wp2_with (first
            | (go_at_call 5; refine (awake6 HC.out).mono ?_; rintro e w1 ⟨rfl, hbb⟩; have HB := Lib.hid hbb; clear hbb)
            | (go_at_call 6; (with_reducible refine (HA.out _ HB.out (HRa.out.below HB.out)).mono ?_); rintro e w2 ⟨cs2, u2, x2, rfl, hch, hbb⟩; have HCA := Lib.hid hch; have HB := Lib.hid (bnext HB.out hbb); clear hbb hch)
            | (go_at_call 6; (with_reducible refine (HB_.out _ HB.out (HRb.out.below HB.out)).mono ?_); rintro e w3 ⟨rfl, hbb⟩; (first | rw [HTb.out] | simp only [HTb.out]); have HCA := Lib.hid (HCA.out.below hbb); have HB := Lib.hid (bnext HB.out hbb); clear hbb)
            | (at_builtin
               refine append_from rfl (.tmp 34) (.tmp 35) rfl w3.heap.size _ [] A a.length ca a rfl rfl (rowN_new w3) ((HRa.out.below HB.out).below ((Below.refl _ _).alloc (Nat.le_refl _) _)) rfl HCa.out.2 ?q1 ?q2 ?_
               case q1 => simp; omega
               case q2 => simp
               intro v4 w4 hr4 hb4
               have HR4 := Lib.hid hr4
               have HB4 := Lib.hid (((Below.refl w3.heap.size w3).alloc (Nat.le_refl _) _).trans hb4)
               clear hr4 hb4)
            | (at_builtin
               refine append_from rfl (.tmp 36) (.tmp 37) rfl w3.heap.size v4 _ (some ⟨w4.heap.size, 0, none⟩) 1 1 [46] rfl rfl (HR4.out.below ((Below.refl _ _).alloc (Nat.le_refl _) _)) (runes_one w4 46) rfl (by simp) ?q3 ?q4 ?_
               case q3 => simp; omega
               case q4 => have := HB4.out.size; simp; omega
               intro v5 w5 hr5 hb5
               have HR5 := Lib.hid hr5
               have HB5 := Lib.hid (HB4.out.trans (((Below.refl _ _).alloc HB4.out.size _).trans hb5))
               clear hr5 hb5)
            | (at_builtin
               refine append_from rfl (.tmp 38) (.tmp 39) rfl w3.heap.size v5 _ B b.length cb b rfl rfl HR5.out (HRb.out.below (bnext HB.out HB5.out)) rfl HCb.out.2 ?q5 HB5.out.size ?_
               case q5 => simp; omega
               intro v6 w6 hr6 hb6
               rw [HAb.out] at hr6
               obtain ⟨A6, c6, e6, hrr6, hcc6⟩ := rowN_runes6 hr6
               subst e6
               have HR6 := Lib.hid hrr6
               have HC6 := Lib.hid hcc6
               have hb36 := HB5.out.trans hb6
               have HCA := Lib.hid (HCA.out.below hb36)
               have HB := Lib.hid (bnext HB.out hb36)
               clear hr6 hb6 hrr6 hcc6 hb36)
            | (go_at_call 6; (with_reducible refine (HU.out A6 c6 _ HB.out HR6.out HC6.out).mono ?_); rintro e w7 ⟨cs7, u7, x7, rfl, hch, hbb⟩; have HCA := Lib.hid (HCA.out.below hbb); have HB := Lib.hid (bnext HB.out hbb); clear hbb hch)
            | (go_at_call 8; (with_reducible refine (code_some cs2 2 u2 x2 _ HCA.out (HG.out.below HB.out)).mono ?_); rintro e w8 ⟨rfl, hbb⟩; have HB := Lib.hid (bnext HB.out hbb); clear hbb))
          go_ret
          exact ⟨rfl, HB.out⟩
        · clear hpt hla hlb hta htb
          obtain ⟨m, rfl⟩ : ∃ m, nu = m + 1 := ⟨nu - 1, by have := hsp (by simp); omega⟩
          clear hsp
          go_enter Tryd.func4, Tryd.ntmps4
          go_wp2_with (first
            | (go_at_call 5; refine (awake6 HC.out).mono ?_; rintro e w1 ⟨rfl, hbb⟩; have HB := Lib.hid hbb; clear hbb)
            | (go_at_call 6; (with_reducible refine (HA.out _ HB.out (HRa.out.below HB.out)).mono ?_); rintro e w2 ⟨cs2, u2, x2, rfl, hch, hbb⟩; have HCA := Lib.hid hch; have HB := Lib.hid (bnext HB.out hbb); clear hbb hch)
            | (go_at_call 6; (with_reducible refine (HB_.out _ HB.out (HRb.out.below HB.out)).mono ?_); rintro e w3 ⟨cs3, u3, x3, rfl, hch, hbb⟩; have HCB := Lib.hid hch; have HCA := Lib.hid (HCA.out.below hbb); have HB := Lib.hid (bnext HB.out hbb); clear hbb hch)
            | (at_builtin
               refine append_from rfl (.tmp 34) (.tmp 35) rfl w3.heap.size _ [] A a.length ca a rfl rfl (rowN_new w3) ((HRa.out.below HB.out).below ((Below.refl _ _).alloc (Nat.le_refl _) _)) rfl HCa.out.2 ?q1 ?q2 ?_
               case q1 => simp; omega
               case q2 => simp
               intro v4 w4 hr4 hb4
               have HR4 := Lib.hid hr4
               have HB4 := Lib.hid (((Below.refl w3.heap.size w3).alloc (Nat.le_refl _) _).trans hb4)
               clear hr4 hb4)
            | (at_builtin
               refine append_from rfl (.tmp 36) (.tmp 37) rfl w3.heap.size v4 _ (some ⟨w4.heap.size, 0, none⟩) 1 1 [46] rfl rfl (HR4.out.below ((Below.refl _ _).alloc (Nat.le_refl _) _)) (runes_one w4 46) rfl (by simp) ?q3 ?q4 ?_
               case q3 => simp; omega
               case q4 => have := HB4.out.size; simp; omega
               intro v5 w5 hr5 hb5
               have HR5 := Lib.hid hr5
               have HB5 := Lib.hid (HB4.out.trans (((Below.refl _ _).alloc HB4.out.size _).trans hb5))
               clear hr5 hb5)
            | (at_builtin
               refine append_from rfl (.tmp 38) (.tmp 39) rfl w3.heap.size v5 _ B b.length cb b rfl rfl HR5.out (HRb.out.below (bnext HB.out HB5.out)) rfl HCb.out.2 ?q5 HB5.out.size ?_
               case q5 => simp; omega
               intro v6 w6 hr6 hb6
               rw [HAb.out] at hr6
               obtain ⟨A6, c6, e6, hrr6, hcc6⟩ := rowN_runes6 hr6
               subst e6
               have HR6 := Lib.hid hrr6
               have HC6 := Lib.hid hcc6
               have hb36 := HB5.out.trans hb6
               have HCA := Lib.hid (HCA.out.below hb36)
               have HCB := Lib.hid (HCB.out.below hb36)
               have HB := Lib.hid (bnext HB.out hb36)
               clear hr6 hb6 hrr6 hcc6 hb36)
            | (go_at_call 6; (with_reducible refine (HU.out A6 c6 _ HB.out HR6.out HC6.out).mono ?_); rintro e w7 ⟨cs7, u7, x7, rfl, hch, hbb⟩; have HCA := Lib.hid (HCA.out.below hbb); have HCB := Lib.hid (HCB.out.below hbb); have HB := Lib.hid (bnext HB.out hbb); clear hbb hch)
            | (go_at_call 8; (with_reducible refine (code_some cs2 2 u2 x2 _ HCA.out (HG.out.below HB.out)).mono ?_); rintro e w8 ⟨rfl, hbb⟩; have HCB := Lib.hid (HCB.out.below hbb); have HB := Lib.hid (bnext HB.out hbb); clear hbb))
          go_ret
          exact ⟨rfl, HB.out⟩
        · clear hpt hla hlb hta htb
          obtain ⟨m, rfl⟩ : ∃ m, nu = m + 1 := ⟨nu - 1, by have := hsp (by simp); omega⟩
          clear hsp
          go_enter Tryd.func4, Tryd.ntmps4
          go_wp2_with (first
            | (go_at_call 5; refine (awake6 HC.out).mono ?_; rintro e w1 ⟨rfl, hbb⟩; have HB := Lib.hid hbb; clear hbb)
            | (go_at_call 6; (with_reducible refine (HA.out _ HB.out (HRa.out.below HB.out)).mono ?_); rintro e w2 ⟨cs2, u2, x2, rfl, hch, hbb⟩; have HCA := Lib.hid hch; have HB := Lib.hid (bnext HB.out hbb); clear hbb hch)
            | (go_at_call 6; (with_reducible refine (HB_.out _ HB.out (HRb.out.below HB.out)).mono ?_); rintro e w3 ⟨cs3, u3, x3, rfl, hch, hbb⟩; have HCB := Lib.hid hch; have HCA := Lib.hid (HCA.out.below hbb); have HB := Lib.hid (bnext HB.out hbb); clear hbb hch)
            | (at_builtin
               refine append_from rfl (.tmp 34) (.tmp 35) rfl w3.heap.size _ [] A a.length ca a rfl rfl (rowN_new w3) ((HRa.out.below HB.out).below ((Below.refl _ _).alloc (Nat.le_refl _) _)) rfl HCa.out.2 ?q1 ?q2 ?_
               case q1 => simp; omega
               case q2 => simp
               intro v4 w4 hr4 hb4
               have HR4 := Lib.hid hr4
               have HB4 := Lib.hid (((Below.refl w3.heap.size w3).alloc (Nat.le_refl _) _).trans hb4)
               clear hr4 hb4)
            | (at_builtin
               refine append_from rfl (.tmp 36) (.tmp 37) rfl w3.heap.size v4 _ (some ⟨w4.heap.size, 0, none⟩) 1 1 [46] rfl rfl (HR4.out.below ((Below.refl _ _).alloc (Nat.le_refl _) _)) (runes_one w4 46) rfl (by simp) ?q3 ?q4 ?_
               case q3 => simp; omega
               case q4 => have := HB4.out.size; simp; omega
               intro v5 w5 hr5 hb5
               have HR5 := Lib.hid hr5
               have HB5 := Lib.hid (HB4.out.trans (((Below.refl _ _).alloc HB4.out.size _).trans hb5))
               clear hr5 hb5)
            | (at_builtin
               refine append_from rfl (.tmp 38) (.tmp 39) rfl w3.heap.size v5 _ B b.length cb b rfl rfl HR5.out (HRb.out.below (bnext HB.out HB5.out)) rfl HCb.out.2 ?q5 HB5.out.size ?_
               case q5 => simp; omega
               intro v6 w6 hr6 hb6
               rw [HAb.out] at hr6
               obtain ⟨A6, c6, e6, hrr6, hcc6⟩ := rowN_runes6 hr6
               subst e6
               have HR6 := Lib.hid hrr6
               have HC6 := Lib.hid hcc6
               have hb36 := HB5.out.trans hb6
               have HCA := Lib.hid (HCA.out.below hb36)
               have HCB := Lib.hid (HCB.out.below hb36)
               have HB := Lib.hid (bnext HB.out hb36)
               clear hr6 hb6 hrr6 hcc6 hb36)
            | (go_at_call 6; (with_reducible refine (HU.out A6 c6 _ HB.out HR6.out HC6.out).mono ?_); rintro e w7 ⟨cs7, u7, x7, rfl, hch, hbb⟩; have HCA := Lib.hid (HCA.out.below hbb); have HCB := Lib.hid (HCB.out.below hbb); have HB := Lib.hid (bnext HB.out hbb); clear hbb hch)
            | (go_at_call 8; (with_reducible refine (code_some cs2 2 u2 x2 _ HCA.out (HG.out.below HB.out)).mono ?_); rintro e w8 ⟨rfl, hbb⟩; have HCB := Lib.hid (HCB.out.below hbb); have HB := Lib.hid (bnext HB.out hbb); clear hbb))
          go_ret
          exact ⟨rfl, HB.out⟩
      · rcases hcb3 with rfl | ⟨rfl, rfl⟩ | ⟨rfl, rfl⟩
        · clear hpt hla hlb hta htb
          clear hsp
          cases nu with
          | zero =>
            obtain ⟨tu, htu⟩ : ∃ t : ByteArray, (⟨su.toArray⟩ : ByteArray) = t := ⟨_, rfl⟩
            have HTu := Lib.hid htu
            clear htu
            go_enter Tryd.func4, Tryd.ntmps4
            go_wp2_with (first
              | (go_at_call 5; refine (awake6 HC.out).mono ?_; rintro e w1 ⟨rfl, hbb⟩; have HB := Lib.hid hbb; clear hbb)
              | (go_at_call 6; (with_reducible refine (HA.out _ HB.out (HRa.out.below HB.out)).mono ?_); rintro e w2 ⟨cs2, u2, x2, rfl, hch, hbb⟩; have HCA := Lib.hid hch; have HB := Lib.hid (bnext HB.out hbb); clear hbb hch)
              | (go_at_call 6; (with_reducible refine (HB_.out _ HB.out (HRb.out.below HB.out)).mono ?_); rintro e w3 ⟨rfl, hbb⟩; (first | rw [HTb.out] | simp only [HTb.out]); have HCA := Lib.hid (HCA.out.below hbb); have HB := Lib.hid (bnext HB.out hbb); clear hbb)
              | (at_builtin
                 refine append_from rfl (.tmp 34) (.tmp 35) rfl w3.heap.size _ [] A a.length ca a rfl rfl (rowN_new w3) ((HRa.out.below HB.out).below ((Below.refl _ _).alloc (Nat.le_refl _) _)) rfl HCa.out.2 ?q1 ?q2 ?_
                 case q1 => simp; omega
                 case q2 => simp
                 intro v4 w4 hr4 hb4
                 have HR4 := Lib.hid hr4
                 have HB4 := Lib.hid (((Below.refl w3.heap.size w3).alloc (Nat.le_refl _) _).trans hb4)
                 clear hr4 hb4)
              | (at_builtin
                 refine append_from rfl (.tmp 36) (.tmp 37) rfl w3.heap.size v4 _ (some ⟨w4.heap.size, 0, none⟩) 1 1 [46] rfl rfl (HR4.out.below ((Below.refl _ _).alloc (Nat.le_refl _) _)) (runes_one w4 46) rfl (by simp) ?q3 ?q4 ?_
                 case q3 => simp; omega
                 case q4 => have := HB4.out.size; simp; omega
                 intro v5 w5 hr5 hb5
                 have HR5 := Lib.hid hr5
                 have HB5 := Lib.hid (HB4.out.trans (((Below.refl _ _).alloc HB4.out.size _).trans hb5))
                 clear hr5 hb5)
              | (at_builtin
                 refine append_from rfl (.tmp 38) (.tmp 39) rfl w3.heap.size v5 _ B b.length cb b rfl rfl HR5.out (HRb.out.below (bnext HB.out HB5.out)) rfl HCb.out.2 ?q5 HB5.out.size ?_
                 case q5 => simp; omega
                 intro v6 w6 hr6 hb6
                 rw [HAb.out] at hr6
                 obtain ⟨A6, c6, e6, hrr6, hcc6⟩ := rowN_runes6 hr6
                 subst e6
                 have HR6 := Lib.hid hrr6
                 have HC6 := Lib.hid hcc6
                 have hb36 := HB5.out.trans hb6
                 have HCA := Lib.hid (HCA.out.below hb36)
                 have HB := Lib.hid (bnext HB.out hb36)
                 clear hr6 hb6 hrr6 hcc6 hb36)
              | (go_at_call 6; (with_reducible refine (HU.out A6 c6 _ HB.out HR6.out HC6.out).mono ?_); rintro e w7 ⟨rfl, hbb⟩; (first | rw [HTu.out] | simp only [HTu.out]); have HCA := Lib.hid (HCA.out.below hbb); have HB := Lib.hid (bnext HB.out hbb); clear hbb)
              | (go_at_call 8; (with_reducible refine (code_some cs2 3 u2 x2 _ HCA.out (HG.out.below HB.out)).mono ?_); rintro e w8 ⟨rfl, hbb⟩; have HB := Lib.hid (bnext HB.out hbb); clear hbb)
              | (go_at_call 8; (with_reducible refine (code_nil _).mono ?_); rintro e w' ⟨rfl, rfl⟩))
            go_ret
            exact ⟨rfl, HB.out⟩
          | succ m =>
            go_enter Tryd.func4, Tryd.ntmps4
            go_wp2_with (first
              | (go_at_call 5; refine (awake6 HC.out).mono ?_; rintro e w1 ⟨rfl, hbb⟩; have HB := Lib.hid hbb; clear hbb)
              | (go_at_call 6; (with_reducible refine (HA.out _ HB.out (HRa.out.below HB.out)).mono ?_); rintro e w2 ⟨cs2, u2, x2, rfl, hch, hbb⟩; have HCA := Lib.hid hch; have HB := Lib.hid (bnext HB.out hbb); clear hbb hch)
              | (go_at_call 6; (with_reducible refine (HB_.out _ HB.out (HRb.out.below HB.out)).mono ?_); rintro e w3 ⟨rfl, hbb⟩; (first | rw [HTb.out] | simp only [HTb.out]); have HCA := Lib.hid (HCA.out.below hbb); have HB := Lib.hid (bnext HB.out hbb); clear hbb)
              | (at_builtin
                 refine append_from rfl (.tmp 34) (.tmp 35) rfl w3.heap.size _ [] A a.length ca a rfl rfl (rowN_new w3) ((HRa.out.below HB.out).below ((Below.refl _ _).alloc (Nat.le_refl _) _)) rfl HCa.out.2 ?q1 ?q2 ?_
                 case q1 => simp; omega
                 case q2 => simp
                 intro v4 w4 hr4 hb4
                 have HR4 := Lib.hid hr4
                 have HB4 := Lib.hid (((Below.refl w3.heap.size w3).alloc (Nat.le_refl _) _).trans hb4)
                 clear hr4 hb4)
              | (at_builtin
                 refine append_from rfl (.tmp 36) (.tmp 37) rfl w3.heap.size v4 _ (some ⟨w4.heap.size, 0, none⟩) 1 1 [46] rfl rfl (HR4.out.below ((Below.refl _ _).alloc (Nat.le_refl _) _)) (runes_one w4 46) rfl (by simp) ?q3 ?q4 ?_
                 case q3 => simp; omega
                 case q4 => have := HB4.out.size; simp; omega
                 intro v5 w5 hr5 hb5
                 have HR5 := Lib.hid hr5
                 have HB5 := Lib.hid (HB4.out.trans (((Below.refl _ _).alloc HB4.out.size _).trans hb5))
                 clear hr5 hb5)
              | (at_builtin
                 refine append_from rfl (.tmp 38) (.tmp 39) rfl w3.heap.size v5 _ B b.length cb b rfl rfl HR5.out (HRb.out.below (bnext HB.out HB5.out)) rfl HCb.out.2 ?q5 HB5.out.size ?_
                 case q5 => simp; omega
                 intro v6 w6 hr6 hb6
                 rw [HAb.out] at hr6
                 obtain ⟨A6, c6, e6, hrr6, hcc6⟩ := rowN_runes6 hr6
                 subst e6
                 have HR6 := Lib.hid hrr6
                 have HC6 := Lib.hid hcc6
                 have hb36 := HB5.out.trans hb6
                 have HCA := Lib.hid (HCA.out.below hb36)
                 have HB := Lib.hid (bnext HB.out hb36)
                 clear hr6 hb6 hrr6 hcc6 hb36)
              | (go_at_call 6; (with_reducible refine (HU.out A6 c6 _ HB.out HR6.out HC6.out).mono ?_); rintro e w7 ⟨cs7, u7, x7, rfl, hch, hbb⟩; have HCA := Lib.hid (HCA.out.below hbb); have HB := Lib.hid (bnext HB.out hbb); clear hbb hch)
              | (go_at_call 8; (with_reducible refine (code_some cs2 3 u2 x2 _ HCA.out (HG.out.below HB.out)).mono ?_); rintro e w8 ⟨rfl, hbb⟩; have HB := Lib.hid (bnext HB.out hbb); clear hbb)
              | (go_at_call 8; (with_reducible refine (code_nil _).mono ?_); rintro e w' ⟨rfl, rfl⟩))
            go_ret
            exact ⟨rfl, HB.out⟩
        · clear hpt hla hlb hta htb
          obtain ⟨m, rfl⟩ : ∃ m, nu = m + 1 := ⟨nu - 1, by have := hsp (by simp); omega⟩
          clear hsp
          go_enter Tryd.func4, Tryd.ntmps4
          go_wp2_with (first
            | (go_at_call 5; refine (awake6 HC.out).mono ?_; rintro e w1 ⟨rfl, hbb⟩; have HB := Lib.hid hbb; clear hbb)
            | (go_at_call 6; (with_reducible refine (HA.out _ HB.out (HRa.out.below HB.out)).mono ?_); rintro e w2 ⟨cs2, u2, x2, rfl, hch, hbb⟩; have HCA := Lib.hid hch; have HB := Lib.hid (bnext HB.out hbb); clear hbb hch)
            | (go_at_call 6; (with_reducible refine (HB_.out _ HB.out (HRb.out.below HB.out)).mono ?_); rintro e w3 ⟨cs3, u3, x3, rfl, hch, hbb⟩; have HCB := Lib.hid hch; have HCA := Lib.hid (HCA.out.below hbb); have HB := Lib.hid (bnext HB.out hbb); clear hbb hch)
            | (at_builtin
               refine append_from rfl (.tmp 34) (.tmp 35) rfl w3.heap.size _ [] A a.length ca a rfl rfl (rowN_new w3) ((HRa.out.below HB.out).below ((Below.refl _ _).alloc (Nat.le_refl _) _)) rfl HCa.out.2 ?q1 ?q2 ?_
               case q1 => simp; omega
               case q2 => simp
               intro v4 w4 hr4 hb4
               have HR4 := Lib.hid hr4
               have HB4 := Lib.hid (((Below.refl w3.heap.size w3).alloc (Nat.le_refl _) _).trans hb4)
               clear hr4 hb4)
            | (at_builtin
               refine append_from rfl (.tmp 36) (.tmp 37) rfl w3.heap.size v4 _ (some ⟨w4.heap.size, 0, none⟩) 1 1 [46] rfl rfl (HR4.out.below ((Below.refl _ _).alloc (Nat.le_refl _) _)) (runes_one w4 46) rfl (by simp) ?q3 ?q4 ?_
               case q3 => simp; omega
               case q4 => have := HB4.out.size; simp; omega
               intro v5 w5 hr5 hb5
               have HR5 := Lib.hid hr5
               have HB5 := Lib.hid (HB4.out.trans (((Below.refl _ _).alloc HB4.out.size _).trans hb5))
               clear hr5 hb5)
            | (at_builtin
               refine append_from rfl (.tmp 38) (.tmp 39) rfl w3.heap.size v5 _ B b.length cb b rfl rfl HR5.out (HRb.out.below (bnext HB.out HB5.out)) rfl HCb.out.2 ?q5 HB5.out.size ?_
               case q5 => simp; omega
               intro v6 w6 hr6 hb6
               rw [HAb.out] at hr6
               obtain ⟨A6, c6, e6, hrr6, hcc6⟩ := rowN_runes6 hr6
               subst e6
               have HR6 := Lib.hid hrr6
               have HC6 := Lib.hid hcc6
               have hb36 := HB5.out.trans hb6
               have HCA := Lib.hid (HCA.out.below hb36)
               have HCB := Lib.hid (HCB.out.below hb36)
               have HB := Lib.hid (bnext HB.out hb36)
               clear hr6 hb6 hrr6 hcc6 hb36)
            | (go_at_call 6; (with_reducible refine (HU.out A6 c6 _ HB.out HR6.out HC6.out).mono ?_); rintro e w7 ⟨cs7, u7, x7, rfl, hch, hbb⟩; have HCA := Lib.hid (HCA.out.below hbb); have HCB := Lib.hid (HCB.out.below hbb); have HB := Lib.hid (bnext HB.out hbb); clear hbb hch)
            | (go_at_call 8; (with_reducible refine (code_some cs2 3 u2 x2 _ HCA.out (HG.out.below HB.out)).mono ?_); rintro e w8 ⟨rfl, hbb⟩; have HCB := Lib.hid (HCB.out.below hbb); have HB := Lib.hid (bnext HB.out hbb); clear hbb)
            | (go_at_call 8; (with_reducible refine (code_some cs3 2 u3 x3 _ HCB.out (HG.out.below HB.out)).mono ?_); rintro e w9 ⟨rfl, hbb⟩; have HB := Lib.hid (bnext HB.out hbb); clear hbb))
          go_ret
          exact ⟨rfl, HB.out⟩
        · clear hpt hla hlb hta htb
          clear hsp
          cases nu with
          | zero =>
            obtain ⟨tu, htu⟩ : ∃ t : ByteArray, (⟨su.toArray⟩ : ByteArray) = t := ⟨_, rfl⟩
            have HTu := Lib.hid htu
            clear htu
            go_enter Tryd.func4, Tryd.ntmps4
            go_wp2_with (first
              | (go_at_call 5; refine (awake6 HC.out).mono ?_; rintro e w1 ⟨rfl, hbb⟩; have HB := Lib.hid hbb; clear hbb)
              | (go_at_call 6; (with_reducible refine (HA.out _ HB.out (HRa.out.below HB.out)).mono ?_); rintro e w2 ⟨cs2, u2, x2, rfl, hch, hbb⟩; have HCA := Lib.hid hch; have HB := Lib.hid (bnext HB.out hbb); clear hbb hch)
              | (go_at_call 6; (with_reducible refine (HB_.out _ HB.out (HRb.out.below HB.out)).mono ?_); rintro e w3 ⟨cs3, u3, x3, rfl, hch, hbb⟩; have HCB := Lib.hid hch; have HCA := Lib.hid (HCA.out.below hbb); have HB := Lib.hid (bnext HB.out hbb); clear hbb hch)
              | (at_builtin
                 refine append_from rfl (.tmp 34) (.tmp 35) rfl w3.heap.size _ [] A a.length ca a rfl rfl (rowN_new w3) ((HRa.out.below HB.out).below ((Below.refl _ _).alloc (Nat.le_refl _) _)) rfl HCa.out.2 ?q1 ?q2 ?_
                 case q1 => simp; omega
                 case q2 => simp
                 intro v4 w4 hr4 hb4
                 have HR4 := Lib.hid hr4
                 have HB4 := Lib.hid (((Below.refl w3.heap.size w3).alloc (Nat.le_refl _) _).trans hb4)
                 clear hr4 hb4)
              | (at_builtin
                 refine append_from rfl (.tmp 36) (.tmp 37) rfl w3.heap.size v4 _ (some ⟨w4.heap.size, 0, none⟩) 1 1 [46] rfl rfl (HR4.out.below ((Below.refl _ _).alloc (Nat.le_refl _) _)) (runes_one w4 46) rfl (by simp) ?q3 ?q4 ?_
                 case q3 => simp; omega
                 case q4 => have := HB4.out.size; simp; omega
                 intro v5 w5 hr5 hb5
                 have HR5 := Lib.hid hr5
                 have HB5 := Lib.hid (HB4.out.trans (((Below.refl _ _).alloc HB4.out.size _).trans hb5))
                 clear hr5 hb5)
              | (at_builtin
                 refine append_from rfl (.tmp 38) (.tmp 39) rfl w3.heap.size v5 _ B b.length cb b rfl rfl HR5.out (HRb.out.below (bnext HB.out HB5.out)) rfl HCb.out.2 ?q5 HB5.out.size ?_
                 case q5 => simp; omega
                 intro v6 w6 hr6 hb6
                 rw [HAb.out] at hr6
                 obtain ⟨A6, c6, e6, hrr6, hcc6⟩ := rowN_runes6 hr6
                 subst e6
                 have HR6 := Lib.hid hrr6
                 have HC6 := Lib.hid hcc6
                 have hb36 := HB5.out.trans hb6
                 have HCA := Lib.hid (HCA.out.below hb36)
                 have HCB := Lib.hid (HCB.out.below hb36)
                 have HB := Lib.hid (bnext HB.out hb36)
                 clear hr6 hb6 hrr6 hcc6 hb36)
              | (go_at_call 6; (with_reducible refine (HU.out A6 c6 _ HB.out HR6.out HC6.out).mono ?_); rintro e w7 ⟨rfl, hbb⟩; (first | rw [HTu.out] | simp only [HTu.out]); have HCA := Lib.hid (HCA.out.below hbb); have HCB := Lib.hid (HCB.out.below hbb); have HB := Lib.hid (bnext HB.out hbb); clear hbb)
              | (go_at_call 8; (with_reducible refine (code_some cs2 3 u2 x2 _ HCA.out (HG.out.below HB.out)).mono ?_); rintro e w8 ⟨rfl, hbb⟩; have HCB := Lib.hid (HCB.out.below hbb); have HB := Lib.hid (bnext HB.out hbb); clear hbb)
              | (go_at_call 8; (with_reducible refine (code_some cs3 3 u3 x3 _ HCB.out (HG.out.below HB.out)).mono ?_); rintro e w9 ⟨rfl, hbb⟩; have HB := Lib.hid (bnext HB.out hbb); clear hbb))
            go_ret
            exact ⟨rfl, HB.out⟩
          | succ m =>
            go_enter Tryd.func4, Tryd.ntmps4
            go_wp2_with (first
              | (go_at_call 5; refine (awake6 HC.out).mono ?_; rintro e w1 ⟨rfl, hbb⟩; have HB := Lib.hid hbb; clear hbb)
              | (go_at_call 6; (with_reducible refine (HA.out _ HB.out (HRa.out.below HB.out)).mono ?_); rintro e w2 ⟨cs2, u2, x2, rfl, hch, hbb⟩; have HCA := Lib.hid hch; have HB := Lib.hid (bnext HB.out hbb); clear hbb hch)
              | (go_at_call 6; (with_reducible refine (HB_.out _ HB.out (HRb.out.below HB.out)).mono ?_); rintro e w3 ⟨cs3, u3, x3, rfl, hch, hbb⟩; have HCB := Lib.hid hch; have HCA := Lib.hid (HCA.out.below hbb); have HB := Lib.hid (bnext HB.out hbb); clear hbb hch)
              | (at_builtin
                 refine append_from rfl (.tmp 34) (.tmp 35) rfl w3.heap.size _ [] A a.length ca a rfl rfl (rowN_new w3) ((HRa.out.below HB.out).below ((Below.refl _ _).alloc (Nat.le_refl _) _)) rfl HCa.out.2 ?q1 ?q2 ?_
                 case q1 => simp; omega
                 case q2 => simp
                 intro v4 w4 hr4 hb4
                 have HR4 := Lib.hid hr4
                 have HB4 := Lib.hid (((Below.refl w3.heap.size w3).alloc (Nat.le_refl _) _).trans hb4)
                 clear hr4 hb4)
              | (at_builtin
                 refine append_from rfl (.tmp 36) (.tmp 37) rfl w3.heap.size v4 _ (some ⟨w4.heap.size, 0, none⟩) 1 1 [46] rfl rfl (HR4.out.below ((Below.refl _ _).alloc (Nat.le_refl _) _)) (runes_one w4 46) rfl (by simp) ?q3 ?q4 ?_
                 case q3 => simp; omega
                 case q4 => have := HB4.out.size; simp; omega
                 intro v5 w5 hr5 hb5
                 have HR5 := Lib.hid hr5
                 have HB5 := Lib.hid (HB4.out.trans (((Below.refl _ _).alloc HB4.out.size _).trans hb5))
                 clear hr5 hb5)
              | (at_builtin
                 refine append_from rfl (.tmp 38) (.tmp 39) rfl w3.heap.size v5 _ B b.length cb b rfl rfl HR5.out (HRb.out.below (bnext HB.out HB5.out)) rfl HCb.out.2 ?q5 HB5.out.size ?_
                 case q5 => simp; omega
                 intro v6 w6 hr6 hb6
                 rw [HAb.out] at hr6
                 obtain ⟨A6, c6, e6, hrr6, hcc6⟩ := rowN_runes6 hr6
                 subst e6
                 have HR6 := Lib.hid hrr6
                 have HC6 := Lib.hid hcc6
                 have hb36 := HB5.out.trans hb6
                 have HCA := Lib.hid (HCA.out.below hb36)
                 have HCB := Lib.hid (HCB.out.below hb36)
                 have HB := Lib.hid (bnext HB.out hb36)
                 clear hr6 hb6 hrr6 hcc6 hb36)
              | (go_at_call 6; (with_reducible refine (HU.out A6 c6 _ HB.out HR6.out HC6.out).mono ?_); rintro e w7 ⟨cs7, u7, x7, rfl, hch, hbb⟩; have HCA := Lib.hid (HCA.out.below hbb); have HCB := Lib.hid (HCB.out.below hbb); have HB := Lib.hid (bnext HB.out hbb); clear hbb hch)
              | (go_at_call 8; (with_reducible refine (code_some cs2 3 u2 x2 _ HCA.out (HG.out.below HB.out)).mono ?_); rintro e w8 ⟨rfl, hbb⟩; have HCB := Lib.hid (HCB.out.below hbb); have HB := Lib.hid (bnext HB.out hbb); clear hbb)
              | (go_at_call 8; (with_reducible refine (code_some cs3 3 u3 x3 _ HCB.out (HG.out.below HB.out)).mono ?_); rintro e w9 ⟨rfl, hbb⟩; have HB := Lib.hid (bnext HB.out hbb); clear hbb))
            go_ret
            exact ⟨rfl, HB.out⟩
    · go_enter Tryd.func4, Tryd.ntmps4
      go_wp2_with (go_at_call 5; refine (awake6 HC.out).mono ?_; rintro e w1 ⟨rfl, hb1⟩)
      go_ret
      exact ⟨rfl, hb1⟩
  · go_enter Tryd.func4, Tryd.ntmps4
    go_wp2_with (go_at_call 5; refine (awake6 HC.out).mono ?_; rintro e w1 ⟨rfl, hb1⟩)
    go_ret
    exact ⟨rfl, hb1⟩
end Go.Proofs.YtfaieldafoeaiaaDoor

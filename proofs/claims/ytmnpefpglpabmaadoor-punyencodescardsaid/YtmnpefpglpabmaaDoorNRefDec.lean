/-
  The document's Decode of layer 4, by its contract.
-/
import Derived.Test.YtmnpefpglpabmaaDoorNPut
namespace Go.Proofs.YtmnpefpglpabmaaDoor
open Go.RowKit

theorem sc_scal' (n : Nat) : scal (n : Int) = sc n := by
  unfold scal sc
  by_cases h1 : n ≤ 1114111 <;> by_cases h2 : n < 55296 <;> by_cases h3 : 57343 < n <;> simp [h1, h2, h3] <;> omega
theorem beq_zero (a : Nat) : ((a : Int) == 0) = (a == 0) := by
  by_cases h : a = 0
  · subst h; rfl
  · rw [beq_eq_false_iff_ne.2 h, beq_eq_false_iff_ne.2 (by omega)]
theorem Made.lower {w w1 w' : World} {v : Value} {l : List Int} (h : Made w1 w' v l) (hb : Below w.heap.size w w1) : Made w w' v l := by
  obtain ⟨⟨h1, h2⟩, h3⟩ := h
  refine ⟨⟨h1, ?_⟩, hb.trans (h3.mono hb.size)⟩
  have := hb.size
  rcases h2 with h2 | ⟨g, cap, cur, rfl, hg, hh, r⟩
  · exact .inl h2
  · exact .inr ⟨g, cap, cur, rfl, by omega, hh, r⟩
theorem Made.form {w w' : World} {v : Value} {l : List Int} (h : Made w w' v l) : ∃ A c, v = .slice A l.length c := by
  obtain ⟨A, c, e, _⟩ := h.runes
  exact ⟨A, c, e⟩
theorem decT_nil (f : Nat) (cur : List Nat) (n i bias : Nat) : decT f [] cur n i bias = some cur := by cases f <;> rfl
theorem decT_none {f : Nat} {s : List UInt8} {cur : List Nat} {n i bias : Nat} (hs : s ≠ []) (h : par s bias 36 1 i = none) : decT (f + 1) s cur n i bias = none := by
  cases s with
  | nil => exact absurd rfl hs
  | cons c s => unfold decT; rw [h]
theorem decT_some {f : Nat} {s r : List UInt8} {cur : List Nat} {n i bias j : Nat} (hs : s ≠ []) (h : par s bias 36 1 i = some (j, r)) : decT (f + 1) s cur n i bias =
    if sc (n + j / (cur.length + 1)) then decT f r (ins cur (j % (cur.length + 1)) (n + j / (cur.length + 1))) (n + j / (cur.length + 1)) (j % (cur.length + 1) + 1) (adapt (j - i) (cur.length + 1) (i == 0)) else none := by
  cases s with
  | nil => exact absurd rfl hs
  | cons c s =>
    conv => lhs; unfold decT
    rw [h]
theorem par_rest {s : ByteArray} {p bias i j : Nat} {r : List UInt8} (h : par (s.data.toList.drop p) bias 36 1 i = some (j, r)) (hp : p ≤ s.size) :
    ∃ p', p < p' ∧ p' ≤ s.size ∧ r = s.data.toList.drop p' ∧ s.size - r.length = p' ∧ i ≤ j ∧ j ≤ 1099511627776 := by
  obtain ⟨q, pre, hj, he, hne, _, hb⟩ := tell_par bias _ _ _ _ _ _ h
  have hl := congrArg List.length he
  rw [List.length_drop, List.length_append] at hl
  have hsz : s.data.toList.length = s.size := by simp
  have hpos := List.length_pos_iff.2 hne
  refine ⟨p + pre.length, by omega, by omega, ?_, by omega, by omega, hb⟩
  rw [← List.drop_drop, he, List.drop_left' rfl]

def DecTwo (o : Option (List Nat)) (w : World) (e : Ending) (w' : World) : Prop := match o with
  | none => e = .returned (.tuple #[.slice none 0 0, .int .i64 2]) ∧ Below w.heap.size w w'
  | some l => ∃ v, e = .returned (.tuple #[v, .int .i64 0]) ∧ Made w w' v (ints l)

/-- The loop: what is left decodes to what the text does. -/
def DecRelN (w : World) (s : ByteArray) (P : Option (List Nat)) (v : Value) (p n i bias : Nat) (wr : World) : Prop :=
  ∃ (f : Nat) (cur : List Nat), Made w wr v (ints cur) ∧ decT f (s.data.toList.drop p) cur n i bias = P ∧ s.size - p ≤ f ∧ p ≤ s.size ∧ cur.length ≤ p ∧ i ≤ cur.length ∧ n ≤ 1114111 ∧ bias ≤ 4398046511104

theorem digits_all {l : List UInt8} {k : Nat} (h : k < l.length) (h1 : ∀ b ∈ l.take k, b.toNat < 128) (h2 : l[k].toNat < 128) : ∀ b ∈ l.take (k + 1), b.toNat < 128 := by
  intro b hb
  rw [List.take_succ_eq_append_getElem h, List.mem_append, List.mem_singleton] at hb
  rcases hb with hb | rfl
  · exact h1 b hb
  · exact h2
theorem pdec_bad {l : List UInt8} {k : Nat} (h : k < l.length) (h2 : 128 ≤ l[k].toNat) : pdec l = none := by
  unfold pdec
  rw [if_pos]
  exact List.any_eq_true.2 ⟨l[k], List.getElem_mem h, by simpa using h2⟩
theorem pdec_good {l : List UInt8} (h : ∀ b ∈ l, b.toNat < 128) : pdec l =
    if 0 < hyph l then decT l.length (l.drop ((hyph l).toNat + 1)) ((l.take (hyph l).toNat).map UInt8.toNat) 128 0 72 else decT l.length l [] 128 0 72 := by
  unfold pdec
  rw [if_neg]
  intro hn
  obtain ⟨b, hb, h1⟩ := List.any_eq_true.1 hn
  have := h b hb
  simp at h1
  omega
theorem hyph_lt (s : List UInt8) : -1 ≤ hyph s ∧ hyph s < s.length ∨ s = [] ∧ hyph s = -1 := by
  by_cases h : s = []
  · subst h; right; exact ⟨rfl, by decide⟩
  · left
    unfold hyph
    have h1 : s.reverse.findIdx (· == 45) ≤ s.reverse.length := List.findIdx_le_length
    have h2 := List.length_pos_iff.2 h
    rw [List.length_reverse] at h1
    omega
theorem toNat_take (l : List UInt8) (k : Nat) (h : k < l.length) : ints ((l.take (k + 1)).map UInt8.toNat) = ints ((l.take k).map UInt8.toNat) ++ [((l[k].toNat : Nat) : Int)] := by
  rw [List.take_succ_eq_append_getElem h]
  simp only [ints, List.map_append, List.map_cons, List.map_nil]

set_option maxHeartbeats 2000000 in
set_option maxRecDepth 100000 in
theorem refDec_any (s : ByteArray) (w : World) (hs : s.size ≤ 900) :
    Calls Tryd.prog 10 #[.string s] w (DecTwo (pdec s.data.toList) w) := by
  obtain ⟨i0, hi, hz0, hz1, hz2⟩ := info_parts Tryd.infoR
  have HI := Lib.hid (And.intro hi (And.intro hz0 (And.intro hz1 hz2)))
  clear hi hz0 hz1 hz2
  have hsl : s.data.toList.length = s.size := by simp
  have HSl := Lib.hid hsl
  clear hsl
  go_enter Tryd.func10, Tryd.ntmps10
  go_wp2
  go_loopw [4] (fun i wr => ∃ k : Nat, k ≤ s.size ∧ i = .int .i64 k ∧ wr = w ∧ ∀ b ∈ s.data.toList.take k, b.toNat < 128) (fun i _ => s.size - (intOf i).toNat)
  case atStart => exact ⟨0, Nat.zero_le _, rfl, rfl, fun b hb => by simp at hb⟩
  case round =>
    obtain ⟨k, hk, rfl, hw, hall⟩ := hrel
    have hw' := hw.symm
    subst hw'
    clear hw
    have HAll := Lib.hid hall
    clear hall
    by_cases hlt : k < s.size
    · have hu := (s[k]'hlt).toNat_lt
      have hl : k < s.data.toList.length := by rw [HSl.out]; exact hlt
      by_cases h128 : (s[k]'hlt).toNat < 128
      · have HN := Lib.hid (digits_all hl HAll.out h128)
        go_wp2
        go_roundw
        case rel => exact ⟨k + 1, by omega, by go_num, by first | rfl | trivial, HN.out⟩
        case measure => simp [intOf]; omega
      · have HN : Hid (pdec s.data.toList = none) := pdec_bad hl (by show 128 ≤ (s[k]'hlt).toNat; omega)
        go_wp2
        go_ret2
        rw [HN.out]
        exact ⟨rfl, Below.refl _ _⟩
    · have hall : ∀ b ∈ s.data.toList, b.toNat < 128 := by
        have := HAll.out
        rw [List.take_of_length_le (by rw [HSl.out]; omega)] at this
        exact this
      obtain ⟨P, hP⟩ : ∃ P, pdec s.data.toList = P := ⟨_, rfl⟩
      have HPd := Lib.hid hP
      rw [pdec_good hall] at hP
      have hhy := hyph_lt s.data.toList
      rw [HSl.out] at hhy
      obtain ⟨y, hy⟩ : ∃ y, hyph s.data.toList = y := ⟨_, rfl⟩
      rw [hy] at hP hhy
      have HY := Lib.hid hy
      clear hall hy
      by_cases hpos : 0 < y
      · rw [if_pos hpos] at hP
        obtain ⟨h, rfl⟩ : ∃ h : Nat, y = (h : Int) := ⟨y.toNat, by omega⟩
        rw [Int.toNat_natCast] at hP
        have hlt2 : h < s.size := by omega
        have hposN : 0 < h := by omega
        have HP := Lib.hid hP
        clear hP hhy
        go_wp2_with (go_at_call 38; refine (hyphen_any _ _ (by omega)).mono ?_; rintro e w' ⟨rfl, rfl⟩; rw [HY.out])
        go_loopw [5, 7] (fun v i wx => ∃ k : Nat, k ≤ h ∧ i = .int .i64 k ∧ Made w wx v (ints ((s.data.toList.take k).map UInt8.toNat))) (fun _ i _ => h - (intOf i).toNat)
        case atStart => exact ⟨0, Nat.zero_le _, rfl, ⟨World.ownsRow_nil _ _ _ _, Below.refl _ _⟩⟩
        case round =>
          obtain ⟨k2, hk2, rfl, hm⟩ := hrel
          have HM := Lib.hid hm
          have hlen : (ints ((s.data.toList.take k2).map UInt8.toNat)).length = k2 := by
            rw [ints_length, List.length_map, List.length_take, HSl.out]; omega
          have HLen := Lib.hid hlen
          clear hm hlen
          by_cases hkh : k2 < h
          · have hks : k2 < s.size := by omega
            have hl : k2 < s.data.toList.length := by rw [HSl.out]; exact hks
            have HT := Lib.hid (toNat_take s.data.toList k2 hl)
            have hu := (s[k2]'hks).toNat_lt
            go_wp2_with (first
              | (go_at_call 38; refine (hyphen_any _ _ (by omega)).mono ?_; rintro e w' ⟨rfl, rfl⟩; rw [HY.out])
              | (at_builtin
                 refine wpList_append_own _ rfl (.tmp 38) (.tmp 43) 22 rfl w.heap.size 21 i0 _ 1 4 Tryd.underlying22 HI.out.1 HI.out.2.1 HI.out.2.2.1 HI.out.2.2.2 rfl (by decide) _ _ _ rfl (HM.out.1.alloc _) ⟨wr.heap.size, 0, none⟩ 1 1 [.int .i32 ((s[k2]'hks).toNat : Int)] rfl rfl (cell_one_new _ _ _) (by simp [Value.oneCell']) ?ha ?hb ?hc ?_
                 case ha => rw [HLen.out]; simp only [maxLen]; omega
                 case hb => rw [HLen.out]; omega
                 case hc => have := HM.out.2.size; simp; omega
                 intro v' w2 hown' hgrow _))
            go_roundw
            case rel => exact ⟨k2 + 1, by omega, by go_num, by rw [HT.out]; exact HM.out.push hown' hgrow⟩
            case measure => simp [intOf]; omega
          · obtain rfl : k2 = h := by omega
            go_wp2_with (go_at_call 38; refine (hyphen_any _ _ (by omega)).mono ?_; rintro e w' ⟨rfl, rfl⟩; rw [HY.out])
            go_loopw [5, 6, 8, 9, 10] (fun v a b c d wx => ∃ p n i bias : Nat, a = .int .i64 p ∧ b = .int .i64 n ∧ c = .int .i64 i ∧ d = .int .i64 bias ∧ DecRelN w s P v p n i bias wx) (fun _ a _ _ _ _ => s.size - (intOf a).toNat)
            case atStart => exact ⟨k2 + 1, 128, 0, 72, by go_num, rfl, rfl, rfl, s.data.toList.length, _, HM.out, HP.out, by rw [HSl.out]; omega, by omega, by rw [List.length_map, List.length_take]; omega, Nat.zero_le _, by omega, by omega⟩
            case round =>
              obtain ⟨p, n, i, bias, rfl, rfl, rfl, rfl, f, cur, hm, hdec, hf, hp, hcl, hic, hn, hbi⟩ := hrel
              have HM := Lib.hid hm
              obtain ⟨A5, c5, e5⟩ := hm.form
              rw [ints_length] at e5
              subst e5
              clear hm
              by_cases hlt3 : p < s.size
              · obtain ⟨f, rfl⟩ : ∃ g, f = g + 1 := ⟨f - 1, by omega⟩
                have hne : s.data.toList.drop p ≠ [] := by rw [drop_cons s p hlt3]; simp
                cases hpar : par (s.data.toList.drop p) bias 36 1 i with
                | none =>
                  rw [decT_none hne hpar] at hdec
                  have HD := Lib.hid hdec
                  have HW : Hid (wres s (par (s.data.toList.drop p) bias 36 1 i) = (0, 0)) := by
                    show wres s _ = _
                    rw [hpar]; rfl
                  clear hdec hpar hne
                  go_wp2_with (go_at_call 39; refine (weighted_any s p i bias _ _ _ _ rfl rfl rfl (by omega) hp (by omega) hbi).mono ?_; rintro e w' ⟨rfl, rfl⟩; rw [HW.out])
                  go_ret2
                  rw [HPd.out, ← HD.out]
                  exact ⟨rfl, HM.out.2⟩
                | some jr =>
                  obtain ⟨j, r⟩ := jr
                  rw [decT_some hne hpar] at hdec
                  obtain ⟨p', hp1, hp2, hr, hend, hij, hj⟩ := par_rest hpar hp
                  have HW : Hid (wres s (par (s.data.toList.drop p) bias 36 1 i) = (j, p')) := by
                    show wres s _ = _
                    rw [hpar, wres, hend]
                  obtain ⟨many, hmany⟩ : ∃ many, cur.length + 1 = many := ⟨_, rfl⟩
                  obtain ⟨q, hq⟩ : ∃ q, j / many = q := ⟨_, rfl⟩
                  obtain ⟨g, hg⟩ : ∃ g, j % many = g := ⟨_, rfl⟩
                  have hqj : q ≤ j := by rw [← hq]; exact Nat.div_le_self _ _
                  have hgm : g < many := by rw [← hg]; exact Nat.mod_lt _ (by omega)
                  have hqi : (j : Int) / (many : Int) = (q : Int) := by rw [← hq, Int.natCast_ediv]
                  have hgi : (j : Int) % (many : Int) = (g : Int) := by rw [← hg, Int.natCast_emod]
                  rw [hmany, hq, hg, hr] at hdec
                  have had := adapt_le (j - i) many (i == 0)
                  have HAd := Lib.hid had
                  have HMany := Lib.hid hmany
                  have hmi : (cur.length : Int) + 1 = (many : Int) := by omega
                  have hm0 : 1 ≤ many := by omega
                  have hm1 : many ≤ 1000 := by omega
                  have hgc : g ≤ cur.length := by omega
                  clear hpar hne hr hend hmany hq hg had
                  by_cases hsc : sc (n + q) = true
                  · rw [if_pos hsc] at hdec
                    have HD := Lib.hid hdec
                    have HSc : Hid (scal ((n + q : Nat) : Int) = true) := (sc_scal' (n + q)).trans hsc
                    have hn2 : n + q ≤ 1114111 := by have := sc_lt hsc; omega
                    clear hdec hsc
                    go_wp2_with (first
                      | (go_at_call 39; refine (weighted_any s p i bias _ _ _ _ rfl rfl rfl (by omega) hp (by omega) hbi).mono ?_; rintro e w' ⟨rfl, rfl⟩; rw [HW.out])
                      | (go_at_call 30; refine (adapt_any (j - i) many _ _ _ _ (by omega) (by omega) (by omega) hm0 (by omega)).mono ?_; rintro e w' ⟨rfl, rfl⟩)
                      | (go_at_call 27; refine (scalar_true _ _ HSc.out).mono ?_; rintro e w' ⟨rfl, rfl⟩)
                      | (go_at_call 40; refine (put_any w _ _ cur g (n + q) _ _ (by omega) (by omega) HM.out (by omega) hgc).mono ?_; rintro e w3 ⟨v3, rfl, hm3⟩; have HM3 := Lib.hid (hm3.lower HM.out.2); clear hm3))
                    go_roundw
                    case rel =>
                      refine ⟨p', n + q, g + 1, adapt (j - i) many (i == 0), by go_num, by go_num, by go_num, by rw [beq_zero], f, ins cur g (n + q), HM3.out, HD.out, by omega, hp2, ?_, ?_, hn2, ?_⟩
                      · rw [ins_length]; omega
                      · rw [ins_length]; omega
                      · have := HAd.out
                        omega
                    case measure => simp [intOf]; omega
                  · rw [if_neg hsc] at hdec
                    have HD := Lib.hid hdec
                    have HSc : Hid (scal ((n + q : Nat) : Int) = false) := (sc_scal' (n + q)).trans (Bool.eq_false_iff.2 hsc)
                    clear hdec hsc
                    by_cases hbig : n + q ≤ 1114111
                    · go_wp2_with (first
                        | (go_at_call 39; refine (weighted_any s p i bias _ _ _ _ rfl rfl rfl (by omega) hp (by omega) hbi).mono ?_; rintro e w' ⟨rfl, rfl⟩; rw [HW.out])
                        | (go_at_call 30; refine (adapt_any (j - i) many _ _ _ _ (by omega) (by omega) (by omega) hm0 (by omega)).mono ?_; rintro e w' ⟨rfl, rfl⟩)
                        | (go_at_call 27; refine (scalar_false _ _ HSc.out).mono ?_; rintro e w' ⟨rfl, rfl⟩))
                      go_ret2
                      rw [HPd.out, ← HD.out]
                      exact ⟨rfl, HM.out.2⟩
                    · go_wp2_with (first
                        | (go_at_call 39; refine (weighted_any s p i bias _ _ _ _ rfl rfl rfl (by omega) hp (by omega) hbi).mono ?_; rintro e w' ⟨rfl, rfl⟩; rw [HW.out])
                        | (go_at_call 30; refine (adapt_any (j - i) many _ _ _ _ (by omega) (by omega) (by omega) hm0 (by omega)).mono ?_; rintro e w' ⟨rfl, rfl⟩))
                      go_ret2
                      rw [HPd.out, ← HD.out]
                      exact ⟨rfl, HM.out.2⟩
              · rw [List.drop_eq_nil_of_le (by rw [HSl.out]; omega), decT_nil] at hdec
                have HD := Lib.hid hdec
                clear hdec
                go_wp2
                go_ret2
                rw [HPd.out, ← HD.out]
                exact ⟨_, rfl, HM.out⟩
      · rw [if_neg hpos] at hP
        have HP := Lib.hid hP
        clear hP hhy
        go_wp2_with (go_at_call 38; refine (hyphen_any _ _ (by omega)).mono ?_; rintro e w' ⟨rfl, rfl⟩; rw [HY.out])
        go_loopw [5, 6, 8, 9, 10] (fun v a b c d wx => ∃ p n i bias : Nat, a = .int .i64 p ∧ b = .int .i64 n ∧ c = .int .i64 i ∧ d = .int .i64 bias ∧ DecRelN w s P v p n i bias wx) (fun _ a _ _ _ _ => s.size - (intOf a).toNat)
        case atStart => exact ⟨0, 128, 0, 72, rfl, rfl, rfl, rfl, s.data.toList.length, [], ⟨World.ownsRow_nil _ _ _ _, Below.refl _ _⟩, HP.out, by rw [HSl.out]; omega, by omega, Nat.le_refl _, Nat.le_refl _, by omega, by omega⟩
        case round =>
          obtain ⟨p, n, i, bias, rfl, rfl, rfl, rfl, f, cur, hm, hdec, hf, hp, hcl, hic, hn, hbi⟩ := hrel
          have HM := Lib.hid hm
          obtain ⟨A5, c5, e5⟩ := hm.form
          rw [ints_length] at e5
          subst e5
          clear hm
          by_cases hlt3 : p < s.size
          · obtain ⟨f, rfl⟩ : ∃ g, f = g + 1 := ⟨f - 1, by omega⟩
            have hne : s.data.toList.drop p ≠ [] := by rw [drop_cons s p hlt3]; simp
            cases hpar : par (s.data.toList.drop p) bias 36 1 i with
            | none =>
              rw [decT_none hne hpar] at hdec
              have HD := Lib.hid hdec
              have HW : Hid (wres s (par (s.data.toList.drop p) bias 36 1 i) = (0, 0)) := by
                show wres s _ = _
                rw [hpar]; rfl
              clear hdec hpar hne
              go_wp2_with (go_at_call 39; refine (weighted_any s p i bias _ _ _ _ rfl rfl rfl (by omega) hp (by omega) hbi).mono ?_; rintro e w' ⟨rfl, rfl⟩; rw [HW.out])
              go_ret2
              rw [HPd.out, ← HD.out]
              exact ⟨rfl, HM.out.2⟩
            | some jr =>
              obtain ⟨j, r⟩ := jr
              rw [decT_some hne hpar] at hdec
              obtain ⟨p', hp1, hp2, hr, hend, hij, hj⟩ := par_rest hpar hp
              have HW : Hid (wres s (par (s.data.toList.drop p) bias 36 1 i) = (j, p')) := by
                show wres s _ = _
                rw [hpar, wres, hend]
              obtain ⟨many, hmany⟩ : ∃ many, cur.length + 1 = many := ⟨_, rfl⟩
              obtain ⟨q, hq⟩ : ∃ q, j / many = q := ⟨_, rfl⟩
              obtain ⟨g, hg⟩ : ∃ g, j % many = g := ⟨_, rfl⟩
              have hqj : q ≤ j := by rw [← hq]; exact Nat.div_le_self _ _
              have hgm : g < many := by rw [← hg]; exact Nat.mod_lt _ (by omega)
              have hqi : (j : Int) / (many : Int) = (q : Int) := by rw [← hq, Int.natCast_ediv]
              have hgi : (j : Int) % (many : Int) = (g : Int) := by rw [← hg, Int.natCast_emod]
              rw [hmany, hq, hg, hr] at hdec
              have had := adapt_le (j - i) many (i == 0)
              have HAd := Lib.hid had
              have HMany := Lib.hid hmany
              have hmi : (cur.length : Int) + 1 = (many : Int) := by omega
              have hm0 : 1 ≤ many := by omega
              have hm1 : many ≤ 1000 := by omega
              have hgc : g ≤ cur.length := by omega
              clear hpar hne hr hend hmany hq hg had
              by_cases hsc : sc (n + q) = true
              · rw [if_pos hsc] at hdec
                have HD := Lib.hid hdec
                have HSc : Hid (scal ((n + q : Nat) : Int) = true) := (sc_scal' (n + q)).trans hsc
                have hn2 : n + q ≤ 1114111 := by have := sc_lt hsc; omega
                clear hdec hsc
                go_wp2_with (first
                  | (go_at_call 39; refine (weighted_any s p i bias _ _ _ _ rfl rfl rfl (by omega) hp (by omega) hbi).mono ?_; rintro e w' ⟨rfl, rfl⟩; rw [HW.out])
                  | (go_at_call 30; refine (adapt_any (j - i) many _ _ _ _ (by omega) (by omega) (by omega) hm0 (by omega)).mono ?_; rintro e w' ⟨rfl, rfl⟩)
                  | (go_at_call 27; refine (scalar_true _ _ HSc.out).mono ?_; rintro e w' ⟨rfl, rfl⟩)
                  | (go_at_call 40; refine (put_any w _ _ cur g (n + q) _ _ (by omega) (by omega) HM.out (by omega) hgc).mono ?_; rintro e w3 ⟨v3, rfl, hm3⟩; have HM3 := Lib.hid (hm3.lower HM.out.2); clear hm3))
                go_roundw
                case rel =>
                  refine ⟨p', n + q, g + 1, adapt (j - i) many (i == 0), by go_num, by go_num, by go_num, by rw [beq_zero], f, ins cur g (n + q), HM3.out, HD.out, by omega, hp2, ?_, ?_, hn2, ?_⟩
                  · rw [ins_length]; omega
                  · rw [ins_length]; omega
                  · have := HAd.out
                    omega
                case measure => simp [intOf]; omega
              · rw [if_neg hsc] at hdec
                have HD := Lib.hid hdec
                have HSc : Hid (scal ((n + q : Nat) : Int) = false) := (sc_scal' (n + q)).trans (Bool.eq_false_iff.2 hsc)
                clear hdec hsc
                by_cases hbig : n + q ≤ 1114111
                · go_wp2_with (first
                    | (go_at_call 39; refine (weighted_any s p i bias _ _ _ _ rfl rfl rfl (by omega) hp (by omega) hbi).mono ?_; rintro e w' ⟨rfl, rfl⟩; rw [HW.out])
                    | (go_at_call 30; refine (adapt_any (j - i) many _ _ _ _ (by omega) (by omega) (by omega) hm0 (by omega)).mono ?_; rintro e w' ⟨rfl, rfl⟩)
                    | (go_at_call 27; refine (scalar_false _ _ HSc.out).mono ?_; rintro e w' ⟨rfl, rfl⟩))
                  go_ret2
                  rw [HPd.out, ← HD.out]
                  exact ⟨rfl, HM.out.2⟩
                · go_wp2_with (first
                    | (go_at_call 39; refine (weighted_any s p i bias _ _ _ _ rfl rfl rfl (by omega) hp (by omega) hbi).mono ?_; rintro e w' ⟨rfl, rfl⟩; rw [HW.out])
                    | (go_at_call 30; refine (adapt_any (j - i) many _ _ _ _ (by omega) (by omega) (by omega) hm0 (by omega)).mono ?_; rintro e w' ⟨rfl, rfl⟩))
                  go_ret2
                  rw [HPd.out, ← HD.out]
                  exact ⟨rfl, HM.out.2⟩
          · rw [List.drop_eq_nil_of_le (by rw [HSl.out]; omega), decT_nil] at hdec
            have HD := Lib.hid hdec
            clear hdec
            go_wp2
            go_ret2
            rw [HPd.out, ← HD.out]
            exact ⟨_, rfl, HM.out⟩
end Go.Proofs.YtmnpefpglpabmaaDoor

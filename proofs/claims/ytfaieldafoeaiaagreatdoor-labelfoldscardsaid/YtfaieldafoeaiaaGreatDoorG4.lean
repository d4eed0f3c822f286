/-
  In this text, one behind the other: NRefDec, KBar, KMap, KMade, KComp, KFold, LRef, LOne, HSmall.
-/
import Derived.Deep.RegionHeld3
import Derived.Deep.AppendLies
import Derived.Laws.AppendOwnNone
import Derived.Test.YtfaieldafoeaiaaGreatDoorG3
import Derived.Test.YtfaieldafoeaiaaGreatDoorG1
/-
  The document's Decode of layer 4, by its contract.
-/
namespace Go.Proofs.YtfaieldafoeaiaaGreatDoor
open Go.RowKit

theorem sc_scal' (n : Nat) : scal (n : Int) = sc n := by
  unfold scal sc
  by_cases h1 : n ≤ 1114111 <;> by_cases h2 : n < 55296 <;> by_cases h3 : 57343 < n <;> simp [h1, h2, h3] <;> omega
theorem beq_zero (a : Nat) : ((a : Int) == 0) = (a == 0) := by
  by_cases h : a = 0
  · subst h; rfl
  · rw [beq_eq_false_iff_ne.2 h, beq_eq_false_iff_ne.2 (by omega)]
theorem Made.lower {w w1 w' : World} {v : Value} {l : List Int} (h : Made w1 w' v l) (hb : Below w.heap.size w w1) : Made w w' v l := by
  obtain ⟨⟨h1, h2⟩, h3⟩ := h
  refine ⟨⟨h1, ?_⟩, hb.trans (h3.mono hb.size)⟩
  have := hb.size
  rcases h2 with h2 | ⟨g, cap, cur, rfl, hg, hh, r⟩
  · exact .inl h2
  · exact .inr ⟨g, cap, cur, rfl, by omega, hh, r⟩
theorem Made.form {w w' : World} {v : Value} {l : List Int} (h : Made w w' v l) : ∃ A c, v = .slice A l.length c := by
  obtain ⟨A, c, e, _⟩ := h.runes
  exact ⟨A, c, e⟩
theorem decT_nil (f : Nat) (cur : List Nat) (n i bias : Nat) : decT f [] cur n i bias = some cur := by cases f <;> rfl
theorem decT_none {f : Nat} {s : List UInt8} {cur : List Nat} {n i bias : Nat} (hs : s ≠ []) (h : par s bias 36 1 i = none) : decT (f + 1) s cur n i bias = none := by
  cases s with
  | nil => exact absurd rfl hs
  | cons c s => unfold decT; rw [h]
theorem decT_some {f : Nat} {s r : List UInt8} {cur : List Nat} {n i bias j : Nat} (hs : s ≠ []) (h : par s bias 36 1 i = some (j, r)) : decT (f + 1) s cur n i bias =
    if sc (n + j / (cur.length + 1)) then decT f r (ins cur (j % (cur.length + 1)) (n + j / (cur.length + 1))) (n + j / (cur.length + 1)) (j % (cur.length + 1) + 1) (adapt (j - i) (cur.length + 1) (i == 0)) else none := by
  cases s with
  | nil => exact absurd rfl hs
  | cons c s =>
    conv => lhs; unfold decT
    rw [h]
theorem par_rest {s : ByteArray} {p bias i j : Nat} {r : List UInt8} (h : par (s.data.toList.drop p) bias 36 1 i = some (j, r)) (hp : p ≤ s.size) :
    ∃ p', p < p' ∧ p' ≤ s.size ∧ r = s.data.toList.drop p' ∧ s.size - r.length = p' ∧ i ≤ j ∧ j ≤ 1099511627776 := by
  obtain ⟨q, pre, hj, he, hne, _, hb⟩ := tell_par bias _ _ _ _ _ _ h
  have hl := congrArg List.length he
  rw [List.length_drop, List.length_append] at hl
  have hsz : s.data.toList.length = s.size := by simp
  have hpos := List.length_pos_iff.2 hne
  refine ⟨p + pre.length, by omega, by omega, ?_, by omega, by omega, hb⟩
  rw [← List.drop_drop, he, List.drop_left' rfl]

def DecTwo (o : Option (List Nat)) (w : World) (e : Ending) (w' : World) : Prop := match o with
  | none => e = .returned (.tuple #[.slice none 0 0, .int .i64 2]) ∧ Below w.heap.size w w'
  | some l => ∃ v, e = .returned (.tuple #[v, .int .i64 0]) ∧ Made w w' v (ints l)

/-- The loop: what is left decodes to what the text does. -/
def DecRelN (w : World) (s : ByteArray) (P : Option (List Nat)) (v : Value) (p n i bias : Nat) (wr : World) : Prop :=
  ∃ (f : Nat) (cur : List Nat), Made w wr v (ints cur) ∧ decT f (s.data.toList.drop p) cur n i bias = P ∧ s.size - p ≤ f ∧ p ≤ s.size ∧ cur.length ≤ p ∧ i ≤ cur.length ∧ n ≤ 1114111 ∧ bias ≤ 4398046511104

theorem digits_all {l : List UInt8} {k : Nat} (h : k < l.length) (h1 : ∀ b ∈ l.take k, b.toNat < 128) (h2 : l[k].toNat < 128) : ∀ b ∈ l.take (k + 1), b.toNat < 128 := by
  intro b hb
  rw [List.take_succ_eq_append_getElem h, List.mem_append, List.mem_singleton] at hb
  rcases hb with hb | rfl
  · exact h1 b hb
  · exact h2
theorem pdec_bad {l : List UInt8} {k : Nat} (h : k < l.length) (h2 : 128 ≤ l[k].toNat) : pdec l = none := by
  unfold pdec
  rw [if_pos]
  exact List.any_eq_true.2 ⟨l[k], List.getElem_mem h, by simpa using h2⟩
theorem pdec_good {l : List UInt8} (h : ∀ b ∈ l, b.toNat < 128) : pdec l =
    if 0 < hyph l then decT l.length (l.drop ((hyph l).toNat + 1)) ((l.take (hyph l).toNat).map UInt8.toNat) 128 0 72 else decT l.length l [] 128 0 72 := by
  unfold pdec
  rw [if_neg]
  intro hn
  obtain ⟨b, hb, h1⟩ := List.any_eq_true.1 hn
  have := h b hb
  simp at h1
  omega
theorem hyph_lt (s : List UInt8) : -1 ≤ hyph s ∧ hyph s < s.length ∨ s = [] ∧ hyph s = -1 := by
  by_cases h : s = []
  · subst h; right; exact ⟨rfl, by decide⟩
  · left
    unfold hyph
    have h1 : s.reverse.findIdx (· == 45) ≤ s.reverse.length := List.findIdx_le_length
    have h2 := List.length_pos_iff.2 h
    rw [List.length_reverse] at h1
    omega
theorem toNat_take (l : List UInt8) (k : Nat) (h : k < l.length) : ints ((l.take (k + 1)).map UInt8.toNat) = ints ((l.take k).map UInt8.toNat) ++ [((l[k].toNat : Nat) : Int)] := by
  rw [List.take_succ_eq_append_getElem h]
  simp only [ints, List.map_append, List.map_cons, List.map_nil]

set_option maxHeartbeats 2000000 in
set_option maxRecDepth 100000 in
theorem refDec_any (s : ByteArray) (w : World) (hs : s.size ≤ 900) :
    Calls Tryz.prog 56 #[.string s] w (DecTwo (pdec s.data.toList) w) := by
  obtain ⟨i0, hi, hz0, hz1, hz2⟩ := info_parts Tryz.infoR
  have HI := Lib.hid (And.intro hi (And.intro hz0 (And.intro hz1 hz2)))
  clear hi hz0 hz1 hz2
  have hsl : s.data.toList.length = s.size := by simp
  have HSl := Lib.hid hsl
  clear hsl
  go_enter Tryz.func56, Tryz.ntmps56
  go_wp2
  go_loopw [4] (fun i wr => ∃ k : Nat, k ≤ s.size ∧ i = .int .i64 k ∧ wr = w ∧ ∀ b ∈ s.data.toList.take k, b.toNat < 128) (fun i _ => s.size - (intOf i).toNat)
  case atStart => exact ⟨0, Nat.zero_le _, rfl, rfl, fun b hb => by simp at hb⟩
  case round =>
    obtain ⟨k, hk, rfl, hw, hall⟩ := hrel
    have hw' := hw.symm
    subst hw'
    clear hw
    have HAll := Lib.hid hall
    clear hall
    by_cases hlt : k < s.size
    · have hu := (s[k]'hlt).toNat_lt
      have hl : k < s.data.toList.length := by rw [HSl.out]; exact hlt
      by_cases h128 : (s[k]'hlt).toNat < 128
      · have HN := Lib.hid (digits_all hl HAll.out h128)
        go_wp2
        go_roundw
        case rel => exact ⟨k + 1, by omega, by go_num, by first | rfl | trivial, HN.out⟩
        case measure => simp [intOf]; omega
      · have HN : Hid (pdec s.data.toList = none) := pdec_bad hl (by show 128 ≤ (s[k]'hlt).toNat; omega)
        go_wp2
        go_ret2
        rw [HN.out]
        exact ⟨rfl, Below.refl _ _⟩
    · have hall : ∀ b ∈ s.data.toList, b.toNat < 128 := by
        have := HAll.out
        rw [List.take_of_length_le (by rw [HSl.out]; omega)] at this
        exact this
      obtain ⟨P, hP⟩ : ∃ P, pdec s.data.toList = P := ⟨_, rfl⟩
      have HPd := Lib.hid hP
      rw [pdec_good hall] at hP
      have hhy := hyph_lt s.data.toList
      rw [HSl.out] at hhy
      obtain ⟨y, hy⟩ : ∃ y, hyph s.data.toList = y := ⟨_, rfl⟩
      rw [hy] at hP hhy
      have HY := Lib.hid hy
      clear hall hy
      by_cases hpos : 0 < y
      · rw [if_pos hpos] at hP
        obtain ⟨h, rfl⟩ : ∃ h : Nat, y = (h : Int) := ⟨y.toNat, by omega⟩
        rw [Int.toNat_natCast] at hP
        have hlt2 : h < s.size := by omega
        have hposN : 0 < h := by omega
        have HP := Lib.hid hP
        clear hP hhy
        go_wp2_with (go_at_call 81; refine (hyphen_any _ _ (by omega)).mono ?_; rintro e w' ⟨rfl, rfl⟩; rw [HY.out])
        go_loopw [5, 7] (fun v i wx => ∃ k : Nat, k ≤ h ∧ i = .int .i64 k ∧ Made w wx v (ints ((s.data.toList.take k).map UInt8.toNat))) (fun _ i _ => h - (intOf i).toNat)
        case atStart => exact ⟨0, Nat.zero_le _, rfl, ⟨World.ownsRow_nil _ _ _ _, Below.refl _ _⟩⟩
        case round =>
          obtain ⟨k2, hk2, rfl, hm⟩ := hrel
          have HM := Lib.hid hm
          have hlen : (ints ((s.data.toList.take k2).map UInt8.toNat)).length = k2 := by
            rw [ints_length, List.length_map, List.length_take, HSl.out]; omega
          have HLen := Lib.hid hlen
          clear hm hlen
          by_cases hkh : k2 < h
          · have hks : k2 < s.size := by omega
            have hl : k2 < s.data.toList.length := by rw [HSl.out]; exact hks
            have HT := Lib.hid (toNat_take s.data.toList k2 hl)
            have hu := (s[k2]'hks).toNat_lt
            go_wp2_with (first
              | (go_at_call 81; refine (hyphen_any _ _ (by omega)).mono ?_; rintro e w' ⟨rfl, rfl⟩; rw [HY.out])
              | (at_builtin
                 refine wpList_append_own _ rfl (.tmp 38) (.tmp 43) 22 rfl w.heap.size 21 i0 _ 1 4 Tryz.underlying22 HI.out.1 HI.out.2.1 HI.out.2.2.1 HI.out.2.2.2 rfl (by decide) _ _ _ rfl (HM.out.1.alloc _) ⟨wr.heap.size, 0, none⟩ 1 1 [.int .i32 ((s[k2]'hks).toNat : Int)] rfl rfl (cell_one_new _ _ _) (by simp [Value.oneCell']) ?ha ?hb ?hc ?_
                 case ha => rw [HLen.out]; simp only [maxLen]; omega
                 case hb => rw [HLen.out]; omega
                 case hc => have := HM.out.2.size; simp; omega
                 intro v' w2 hown' hgrow _))
            go_roundw
            case rel => exact ⟨k2 + 1, by omega, by go_num, by rw [HT.out]; exact HM.out.push hown' hgrow⟩
            case measure => simp [intOf]; omega
          · obtain rfl : k2 = h := by omega
            go_wp2_with (go_at_call 81; refine (hyphen_any _ _ (by omega)).mono ?_; rintro e w' ⟨rfl, rfl⟩; rw [HY.out])
            go_loopw [5, 6, 8, 9, 10] (fun v a b c d wx => ∃ p n i bias : Nat, a = .int .i64 p ∧ b = .int .i64 n ∧ c = .int .i64 i ∧ d = .int .i64 bias ∧ DecRelN w s P v p n i bias wx) (fun _ a _ _ _ _ => s.size - (intOf a).toNat)
            case atStart => exact ⟨k2 + 1, 128, 0, 72, by go_num, rfl, rfl, rfl, s.data.toList.length, _, HM.out, HP.out, by rw [HSl.out]; omega, by omega, by rw [List.length_map, List.length_take]; omega, Nat.zero_le _, by omega, by omega⟩
            case round =>
              obtain ⟨p, n, i, bias, rfl, rfl, rfl, rfl, f, cur, hm, hdec, hf, hp, hcl, hic, hn, hbi⟩ := hrel
              have HM := Lib.hid hm
              obtain ⟨A5, c5, e5⟩ := hm.form
              rw [ints_length] at e5
              subst e5
              clear hm
              by_cases hlt3 : p < s.size
              · obtain ⟨f, rfl⟩ : ∃ g, f = g + 1 := ⟨f - 1, by omega⟩
                have hne : s.data.toList.drop p ≠ [] := by rw [drop_cons s p hlt3]; simp
                cases hpar : par (s.data.toList.drop p) bias 36 1 i with
                | none =>
                  rw [decT_none hne hpar] at hdec
                  have HD := Lib.hid hdec
                  have HW : Hid (wres s (par (s.data.toList.drop p) bias 36 1 i) = (0, 0)) := by
                    show wres s _ = _
                    rw [hpar]; rfl
                  clear hdec hpar hne
                  go_wp2_with (go_at_call 82; refine (weighted_any s p i bias _ _ _ _ rfl rfl rfl (by omega) hp (by omega) hbi).mono ?_; rintro e w' ⟨rfl, rfl⟩; rw [HW.out])
                  go_ret2
                  rw [HPd.out, ← HD.out]
                  exact ⟨rfl, HM.out.2⟩
                | some jr =>
                  obtain ⟨j, r⟩ := jr
                  rw [decT_some hne hpar] at hdec
                  obtain ⟨p', hp1, hp2, hr, hend, hij, hj⟩ := par_rest hpar hp
                  have HW : Hid (wres s (par (s.data.toList.drop p) bias 36 1 i) = (j, p')) := by
                    show wres s _ = _
                    rw [hpar, wres, hend]
                  obtain ⟨many, hmany⟩ : ∃ many, cur.length + 1 = many := ⟨_, rfl⟩
                  obtain ⟨q, hq⟩ : ∃ q, j / many = q := ⟨_, rfl⟩
                  obtain ⟨g, hg⟩ : ∃ g, j % many = g := ⟨_, rfl⟩
                  have hqj : q ≤ j := by rw [← hq]; exact Nat.div_le_self _ _
                  have hgm : g < many := by rw [← hg]; exact Nat.mod_lt _ (by omega)
                  have hqi : (j : Int) / (many : Int) = (q : Int) := by rw [← hq, Int.natCast_ediv]
                  have hgi : (j : Int) % (many : Int) = (g : Int) := by rw [← hg, Int.natCast_emod]
                  rw [hmany, hq, hg, hr] at hdec
                  have had := adapt_le (j - i) many (i == 0)
                  have HAd := Lib.hid had
                  have HMany := Lib.hid hmany
                  have hmi : (cur.length : Int) + 1 = (many : Int) := by omega
                  have hm0 : 1 ≤ many := by omega
                  have hm1 : many ≤ 1000 := by omega
                  have hgc : g ≤ cur.length := by omega
                  clear hpar hne hr hend hmany hq hg had
                  by_cases hsc : sc (n + q) = true
                  · rw [if_pos hsc] at hdec
                    have HD := Lib.hid hdec
                    have HSc : Hid (scal ((n + q : Nat) : Int) = true) := (sc_scal' (n + q)).trans hsc
                    have hn2 : n + q ≤ 1114111 := by have := sc_lt hsc; omega
                    clear hdec hsc
                    go_wp2_with (first
                      | (go_at_call 82; refine (weighted_any s p i bias _ _ _ _ rfl rfl rfl (by omega) hp (by omega) hbi).mono ?_; rintro e w' ⟨rfl, rfl⟩; rw [HW.out])
                      | (go_at_call 60; refine (adapt_any (j - i) many _ _ _ _ (by omega) (by omega) (by omega) hm0 (by omega)).mono ?_; rintro e w' ⟨rfl, rfl⟩)
                      | (go_at_call 22; refine (scalar_true _ _ HSc.out).mono ?_; rintro e w' ⟨rfl, rfl⟩)
                      | (go_at_call 83; refine (put_any w _ _ cur g (n + q) _ _ (by omega) (by omega) HM.out (by omega) hgc).mono ?_; rintro e w3 ⟨v3, rfl, hm3⟩; have HM3 := Lib.hid (hm3.lower HM.out.2); clear hm3))
                    go_roundw
                    case rel =>
                      refine ⟨p', n + q, g + 1, adapt (j - i) many (i == 0), by go_num, by go_num, by go_num, by rw [beq_zero], f, ins cur g (n + q), HM3.out, HD.out, by omega, hp2, ?_, ?_, hn2, ?_⟩
                      · rw [ins_length]; omega
                      · rw [ins_length]; omega
                      · have := HAd.out
                        omega
                    case measure => simp [intOf]; omega
                  · rw [if_neg hsc] at hdec
                    have HD := Lib.hid hdec
                    have HSc : Hid (scal ((n + q : Nat) : Int) = false) := (sc_scal' (n + q)).trans (Bool.eq_false_iff.2 hsc)
                    clear hdec hsc
                    by_cases hbig : n + q ≤ 1114111
                    · go_wp2_with (first
                        | (go_at_call 82; refine (weighted_any s p i bias _ _ _ _ rfl rfl rfl (by omega) hp (by omega) hbi).mono ?_; rintro e w' ⟨rfl, rfl⟩; rw [HW.out])
                        | (go_at_call 60; refine (adapt_any (j - i) many _ _ _ _ (by omega) (by omega) (by omega) hm0 (by omega)).mono ?_; rintro e w' ⟨rfl, rfl⟩)
                        | (go_at_call 22; refine (scalar_false _ _ HSc.out).mono ?_; rintro e w' ⟨rfl, rfl⟩))
                      go_ret2
                      rw [HPd.out, ← HD.out]
                      exact ⟨rfl, HM.out.2⟩
                    · go_wp2_with (first
                        | (go_at_call 82; refine (weighted_any s p i bias _ _ _ _ rfl rfl rfl (by omega) hp (by omega) hbi).mono ?_; rintro e w' ⟨rfl, rfl⟩; rw [HW.out])
                        | (go_at_call 60; refine (adapt_any (j - i) many _ _ _ _ (by omega) (by omega) (by omega) hm0 (by omega)).mono ?_; rintro e w' ⟨rfl, rfl⟩))
                      go_ret2
                      rw [HPd.out, ← HD.out]
                      exact ⟨rfl, HM.out.2⟩
              · rw [List.drop_eq_nil_of_le (by rw [HSl.out]; omega), decT_nil] at hdec
                have HD := Lib.hid hdec
                clear hdec
                go_wp2
                go_ret2
                rw [HPd.out, ← HD.out]
                exact ⟨_, rfl, HM.out⟩
      · rw [if_neg hpos] at hP
        have HP := Lib.hid hP
        clear hP hhy
        go_wp2_with (go_at_call 81; refine (hyphen_any _ _ (by omega)).mono ?_; rintro e w' ⟨rfl, rfl⟩; rw [HY.out])
        go_loopw [5, 6, 8, 9, 10] (fun v a b c d wx => ∃ p n i bias : Nat, a = .int .i64 p ∧ b = .int .i64 n ∧ c = .int .i64 i ∧ d = .int .i64 bias ∧ DecRelN w s P v p n i bias wx) (fun _ a _ _ _ _ => s.size - (intOf a).toNat)
        case atStart => exact ⟨0, 128, 0, 72, rfl, rfl, rfl, rfl, s.data.toList.length, [], ⟨World.ownsRow_nil _ _ _ _, Below.refl _ _⟩, HP.out, by rw [HSl.out]; omega, by omega, Nat.le_refl _, Nat.le_refl _, by omega, by omega⟩
        case round =>
          obtain ⟨p, n, i, bias, rfl, rfl, rfl, rfl, f, cur, hm, hdec, hf, hp, hcl, hic, hn, hbi⟩ := hrel
          have HM := Lib.hid hm
          obtain ⟨A5, c5, e5⟩ := hm.form
          rw [ints_length] at e5
          subst e5
          clear hm
          by_cases hlt3 : p < s.size
          · obtain ⟨f, rfl⟩ : ∃ g, f = g + 1 := ⟨f - 1, by omega⟩
            have hne : s.data.toList.drop p ≠ [] := by rw [drop_cons s p hlt3]; simp
            cases hpar : par (s.data.toList.drop p) bias 36 1 i with
            | none =>
              rw [decT_none hne hpar] at hdec
              have HD := Lib.hid hdec
              have HW : Hid (wres s (par (s.data.toList.drop p) bias 36 1 i) = (0, 0)) := by
                show wres s _ = _
                rw [hpar]; rfl
              clear hdec hpar hne
              go_wp2_with (go_at_call 82; refine (weighted_any s p i bias _ _ _ _ rfl rfl rfl (by omega) hp (by omega) hbi).mono ?_; rintro e w' ⟨rfl, rfl⟩; rw [HW.out])
              go_ret2
              rw [HPd.out, ← HD.out]
              exact ⟨rfl, HM.out.2⟩
            | some jr =>
              obtain ⟨j, r⟩ := jr
              rw [decT_some hne hpar] at hdec
              obtain ⟨p', hp1, hp2, hr, hend, hij, hj⟩ := par_rest hpar hp
              have HW : Hid (wres s (par (s.data.toList.drop p) bias 36 1 i) = (j, p')) := by
                show wres s _ = _
                rw [hpar, wres, hend]
              obtain ⟨many, hmany⟩ : ∃ many, cur.length + 1 = many := ⟨_, rfl⟩
              obtain ⟨q, hq⟩ : ∃ q, j / many = q := ⟨_, rfl⟩
              obtain ⟨g, hg⟩ : ∃ g, j % many = g := ⟨_, rfl⟩
              have hqj : q ≤ j := by rw [← hq]; exact Nat.div_le_self _ _
              have hgm : g < many := by rw [← hg]; exact Nat.mod_lt _ (by omega)
              have hqi : (j : Int) / (many : Int) = (q : Int) := by rw [← hq, Int.natCast_ediv]
              have hgi : (j : Int) % (many : Int) = (g : Int) := by rw [← hg, Int.natCast_emod]
              rw [hmany, hq, hg, hr] at hdec
              have had := adapt_le (j - i) many (i == 0)
              have HAd := Lib.hid had
              have HMany := Lib.hid hmany
              have hmi : (cur.length : Int) + 1 = (many : Int) := by omega
              have hm0 : 1 ≤ many := by omega
              have hm1 : many ≤ 1000 := by omega
              have hgc : g ≤ cur.length := by omega
              clear hpar hne hr hend hmany hq hg had
              by_cases hsc : sc (n + q) = true
              · rw [if_pos hsc] at hdec
                have HD := Lib.hid hdec
                have HSc : Hid (scal ((n + q : Nat) : Int) = true) := (sc_scal' (n + q)).trans hsc
                have hn2 : n + q ≤ 1114111 := by have := sc_lt hsc; omega
                clear hdec hsc
                go_wp2_with (first
                  | (go_at_call 82; refine (weighted_any s p i bias _ _ _ _ rfl rfl rfl (by omega) hp (by omega) hbi).mono ?_; rintro e w' ⟨rfl, rfl⟩; rw [HW.out])
                  | (go_at_call 60; refine (adapt_any (j - i) many _ _ _ _ (by omega) (by omega) (by omega) hm0 (by omega)).mono ?_; rintro e w' ⟨rfl, rfl⟩)
                  | (go_at_call 22; refine (scalar_true _ _ HSc.out).mono ?_; rintro e w' ⟨rfl, rfl⟩)
                  | (go_at_call 83; refine (put_any w _ _ cur g (n + q) _ _ (by omega) (by omega) HM.out (by omega) hgc).mono ?_; rintro e w3 ⟨v3, rfl, hm3⟩; have HM3 := Lib.hid (hm3.lower HM.out.2); clear hm3))
                go_roundw
                case rel =>
                  refine ⟨p', n + q, g + 1, adapt (j - i) many (i == 0), by go_num, by go_num, by go_num, by rw [beq_zero], f, ins cur g (n + q), HM3.out, HD.out, by omega, hp2, ?_, ?_, hn2, ?_⟩
                  · rw [ins_length]; omega
                  · rw [ins_length]; omega
                  · have := HAd.out
                    omega
                case measure => simp [intOf]; omega
              · rw [if_neg hsc] at hdec
                have HD := Lib.hid hdec
                have HSc : Hid (scal ((n + q : Nat) : Int) = false) := (sc_scal' (n + q)).trans (Bool.eq_false_iff.2 hsc)
                clear hdec hsc
                by_cases hbig : n + q ≤ 1114111
                · go_wp2_with (first
                    | (go_at_call 82; refine (weighted_any s p i bias _ _ _ _ rfl rfl rfl (by omega) hp (by omega) hbi).mono ?_; rintro e w' ⟨rfl, rfl⟩; rw [HW.out])
                    | (go_at_call 60; refine (adapt_any (j - i) many _ _ _ _ (by omega) (by omega) (by omega) hm0 (by omega)).mono ?_; rintro e w' ⟨rfl, rfl⟩)
                    | (go_at_call 22; refine (scalar_false _ _ HSc.out).mono ?_; rintro e w' ⟨rfl, rfl⟩))
                  go_ret2
                  rw [HPd.out, ← HD.out]
                  exact ⟨rfl, HM.out.2⟩
                · go_wp2_with (first
                    | (go_at_call 82; refine (weighted_any s p i bias _ _ _ _ rfl rfl rfl (by omega) hp (by omega) hbi).mono ?_; rintro e w' ⟨rfl, rfl⟩; rw [HW.out])
                    | (go_at_call 60; refine (adapt_any (j - i) many _ _ _ _ (by omega) (by omega) (by omega) hm0 (by omega)).mono ?_; rintro e w' ⟨rfl, rfl⟩))
                  go_ret2
                  rw [HPd.out, ← HD.out]
                  exact ⟨rfl, HM.out.2⟩
          · rw [List.drop_eq_nil_of_le (by rw [HSl.out]; omega), decT_nil] at hdec
            have HD := Lib.hid hdec
            clear hdec
            go_wp2
            go_ret2
            rw [HPd.out, ← HD.out]
            exact ⟨_, rfl, HM.out⟩
end Go.Proofs.YtfaieldafoeaiaaGreatDoor

/-
  The document's barred, Map, made of layer 5, by their contracts.
-/
namespace Go.Proofs.YtfaieldafoeaiaaGreatDoor
open Go.RowKit

set_option maxHeartbeats 1000000 in
set_option maxRecDepth 100000 in
theorem barred_any (c : Int) (w : World) :
    Calls Tryz.prog 69 #[.int .i32 c] w fun e w' => e = .returned (.bool (decide (Barred c))) ∧ w = w' := by
  by_cases hs : scal c = true
  · obtain ⟨h0, h1, h2⟩ := (scal_iff c).1 hs
    have HS := Lib.hid hs
    clear hs
    go_enter Tryz.func69, Tryz.ntmps69
    go_wp2_with (go_at_call 22; refine (scalar_true _ _ HS.out).mono ?_; rintro e w' ⟨rfl, rfl⟩)
    all_goals
      go_ret
      refine ⟨ret_bool ?_, rfl⟩
      try simp only [beq_iff_eq, beq_eq_false_iff_ne, ne_eq] at *
      first
      | (refine (decide_eq_true ?_).symm; unfold Barred; omega)
      | (refine (decide_eq_false ?_).symm; unfold Barred; omega)
      | (apply Bool.eq_iff_iff.2; rw [decide_eq_true_eq]; simp only [decide_eq_true_eq, Bool.or_eq_true, beq_iff_eq]; unfold Barred; omega)
  · have HS := Lib.hid (Bool.eq_false_iff.2 hs)
    have HB : Hid (decide (Barred c) = true) := by
      show decide (Barred c) = true
      rw [decide_eq_true_eq]
      rw [scal_iff] at hs
      unfold Barred
      omega
    clear hs
    go_enter Tryz.func69, Tryz.ntmps69
    go_wp2_with (go_at_call 22; refine (scalar_false _ _ HS.out).mono ?_; rintro e w' ⟨rfl, rfl⟩)
    go_ret
    exact ⟨ret_bool HB.out.symm, rfl⟩

end Go.Proofs.YtfaieldafoeaiaaGreatDoor

/-
  The document's Map of layer 5, by their contracts.
-/
namespace Go.Proofs.YtfaieldafoeaiaaGreatDoor
open Go.RowKit

/-- A slice that a call has laid anew. -/
theorem made_new (w : World) (l : List Int) (v : Value) (hv : v = .slice (some ⟨w.heap.size, 0, none⟩) l.length l.length) (hl : l.length ≤ 1000) : Made w (w.alloc (.cells (l.map (Value.int .i32)).toArray 21)) v l := by
  subst hv
  refine ⟨⟨by simp, .inr ⟨w.heap.size, l.length, (l.map (Value.int .i32)).toArray, rfl, Nat.le_refl _, heap_alloc_new w _, Nat.le_refl _, by simp only [maxLen]; omega, by simp, by simp [List.take_of_length_le]⟩⟩, (Below.refl _ _).alloc (Nat.le_refl _) _⟩
theorem made_one (w : World) (x y : Int) (h : x = y) : Made w (w.alloc (.cells #[.int .i32 x] 21)) (.slice (some ⟨w.heap.size, 0, none⟩) 1 1) [y] := by
  subst h
  exact made_new w [x] _ rfl (by simp)
theorem m_none {c : Int} (h : c = 173 ∨ c = 8203 ∨ c = 8288 ∨ c = 65279) : mapTo c = [] := by unfold mapTo; rw [if_pos h]
theorem m_dot {c : Int} (h : c = 12290 ∨ c = 65377) : mapTo c = [46] := by unfold mapTo; rw [if_neg (by omega), if_pos h]
theorem m_rest {c : Int} (h1 : ¬ (c = 173 ∨ c = 8203 ∨ c = 8288 ∨ c = 65279)) (h2 : ¬ (c = 12290 ∨ c = 65377)) : mapTo c = down (wide c) := by unfold mapTo; rw [if_neg h1, if_neg h2]
theorem wide_in {c : Int} (h : 65281 ≤ c ∧ c ≤ 65374) : wide c = c - 65248 := by unfold wide; rw [if_pos h]
theorem wide_out {c : Int} (h : ¬ (65281 ≤ c ∧ c ≤ 65374)) : wide c = c := by unfold wide; rw [if_neg h]
theorem m_wcap {c : Int} (h : 65313 ≤ c ∧ c ≤ 65338) : mapTo c = [c - 65216] := by
  rw [m_rest (by omega) (by omega), wide_in (by omega)]
  unfold down
  rw [if_pos (by unfold Cap; omega)]
  congr 1; omega
theorem m_wide {c : Int} (h : 65281 ≤ c ∧ c ≤ 65374) (h1 : ¬ (65313 ≤ c ∧ c ≤ 65338)) : mapTo c = [c - 65248] := by
  rw [m_rest (by omega) (by omega), wide_in h]
  unfold down
  rw [if_neg (by unfold Cap; omega), if_neg (by omega), if_neg (by omega)]
theorem m_cap {c : Int} (h : Cap c) : mapTo c = [c + 32] := by
  have h' := h
  unfold Cap at h'
  rw [m_rest (by omega) (by omega), wide_out (by omega)]
  unfold down
  rw [if_pos h]
theorem m_cyr {c : Int} (h : 1024 ≤ c ∧ c ≤ 1039) : mapTo c = [c + 80] := by
  rw [m_rest (by omega) (by omega), wide_out (by omega)]
  unfold down
  rw [if_neg (by unfold Cap; omega), if_pos h]
theorem m_ss {c : Int} (h : c = 7838) : mapTo c = [115, 115] := by subst h; decide
theorem m_self {c : Int} (h1 : ¬ (c = 173 ∨ c = 8203 ∨ c = 8288 ∨ c = 65279)) (h2 : ¬ (c = 12290 ∨ c = 65377)) (h3 : ¬ (65281 ≤ c ∧ c ≤ 65374)) (h4 : ¬ Cap c) (h5 : ¬ (1024 ≤ c ∧ c ≤ 1039)) (h6 : c ≠ 7838) : mapTo c = [c] := by
  rw [m_rest h1 h2, wide_out h3]
  unfold down
  rw [if_neg h4, if_neg h5, if_neg h6]

def MapBad (w : World) (e : Ending) (w' : World) : Prop := e = .returned (.tuple #[.slice none 0 0, .bool false]) ∧ Below w.heap.size w w'
def MapGood (l : List Int) (w : World) (e : Ending) (w' : World) : Prop := ∃ v, e = .returned (.tuple #[v, .bool true]) ∧ Made w w' v l

theorem barred_is {c : Int} {b : Bool} (w : World) (h : decide (Barred c) = b) : Calls Tryz.prog 69 #[.int .i32 c] w fun e w' => e = .returned (.bool b) ∧ w = w' := h ▸ barred_any c w

set_option maxHeartbeats 400000 in
theorem map_bad (c : Int) (w : World) (h : Barred c) : Calls Tryz.prog 35 #[.int .i32 c] w (MapBad w) := by
  have HB := Lib.hid (decide_eq_true h)
  clear h
  go_enter Tryz.func35, Tryz.ntmps35
  go_wp2_with (go_at_call 69; refine (barred_is _ HB.out).mono ?_; rintro e w' ⟨rfl, rfl⟩)
  go_ret2
  exact ⟨rfl, Below.refl _ _⟩

set_option maxHeartbeats 2000000 in
set_option maxRecDepth 100000 in
theorem map_good (c : Int) (w : World) (h : ¬ Barred c) : Calls Tryz.prog 35 #[.int .i32 c] w (MapGood (mapTo c) w) := by
  have HB := Lib.hid (decide_eq_false h)
  have h0 : 0 ≤ c ∧ c ≤ 1114111 := by unfold Barred at h; omega
  obtain ⟨h0, h1⟩ := h0
  clear h
  go_enter Tryz.func35, Tryz.ntmps35
  go_wp2_with (go_at_call 69; refine (barred_is _ HB.out).mono ?_; rintro e w' ⟨rfl, rfl⟩)
  all_goals
    go_ret2
    try simp only [beq_iff_eq, beq_eq_false_iff_ne, ne_eq] at *
    first
    | (rw [m_none (by omega)]; exact ⟨_, rfl, World.ownsRow_nil _ _ _ _, Below.refl _ _⟩)
    | (rw [m_dot (by omega)]; exact ⟨_, rfl, made_one w _ 46 (by omega)⟩)
    | (rw [m_wcap (by omega)]; exact ⟨_, rfl, made_one w _ (c - 65216) (by omega)⟩)
    | (rw [m_wide (by omega) (by omega)]; exact ⟨_, rfl, made_one w _ (c - 65248) (by omega)⟩)
    | (rw [m_cap (by unfold Cap; omega)]; exact ⟨_, rfl, made_one w _ (c + 32) (by omega)⟩)
    | (rw [m_cyr (by omega)]; exact ⟨_, rfl, made_one w _ (c + 80) (by omega)⟩)
    | (rw [m_ss (by omega)]; exact ⟨_, rfl, made_new w [115, 115] _ rfl (by simp)⟩)
    | (rw [m_self (by omega) (by omega) (by omega) (by unfold Cap; omega) (by omega) (by omega)]; exact ⟨_, rfl, made_one w _ c (by omega)⟩)
    | (rw [show mapTo 215 = [215] by decide]; exact ⟨_, rfl, made_one w _ 215 (by omega)⟩)
    | (rw [show mapTo 930 = [930] by decide]; exact ⟨_, rfl, made_one w _ 930 (by omega)⟩)
    | (rw [show mapTo 7838 = [115, 115] by decide]; exact ⟨_, rfl, made_new w [115, 115] _ rfl (by simp)⟩)
end Go.Proofs.YtfaieldafoeaiaaGreatDoor

/-
  The document's made of layer 5, by their contracts.
-/
namespace Go.Proofs.YtfaieldafoeaiaaGreatDoor
open Go.RowKit

/-- Where made's two tables lie. -/
def Tabs (w wr : World) : Prop := (∀ k p, pairs[k]? = some p → wr.cell? ⟨w.heap.size, k, none⟩ = some (.int .i32 p.2.2) ∧ wr.cell? ⟨w.heap.size + 1, k, none⟩ = some (.int .i32 p.2.1)) ∧ Below w.heap.size w wr
theorem tabs_new (w : World) : Tabs w ((w.alloc (.cells (pairs.map fun p => Value.int .i32 p.2.2).toArray 21)).alloc (.cells (pairs.map fun p => Value.int .i32 p.2.1).toArray 21)) := by
  refine ⟨fun k p hp => ⟨?_, ?_⟩, ((Below.refl _ _).alloc (Nat.le_refl _) _).alloc (by simp) _⟩
  · have h0 := cells_new w (pairs.map fun p => Value.int .i32 p.2.2) 21 k (.int .i32 p.2.2) (by rw [List.getElem?_map, hp]; rfl)
    rw [add_at, Nat.zero_add] at h0
    have hb : Below (w.alloc (.cells (pairs.map fun p => Value.int .i32 p.2.2).toArray 21)).heap.size (w.alloc (.cells (pairs.map fun p => Value.int .i32 p.2.2).toArray 21)) ((w.alloc (.cells (pairs.map fun p => Value.int .i32 p.2.2).toArray 21)).alloc (.cells (pairs.map fun p => Value.int .i32 p.2.1).toArray 21)) := (Below.refl _ _).alloc (Nat.le_refl _) _
    exact (hb.cell (p := ⟨w.heap.size, k, none⟩) (by simp)).trans h0
  · have h0 := cells_new (w.alloc (.cells (pairs.map fun p => Value.int .i32 p.2.2).toArray 21)) (pairs.map fun p => Value.int .i32 p.2.1) 21 k (.int .i32 p.2.1) (by rw [List.getElem?_map, hp]; rfl)
    rw [add_at, Nat.zero_add] at h0
    simpa using h0
theorem pairs_byte : ∀ p ∈ pairs, 0 ≤ p.1 ∧ p.1 ≤ 255 := by decide +kernel
theorem of_fin : ∀ k : Fin 27, ((({ data := #[97, 97, 97, 97, 97, 97, 99, 101, 101, 101, 101, 105, 105, 105, 105, 110, 111, 111, 111, 111, 111, 117, 117, 117, 117, 121, 121] } : ByteArray)[k.val]'k.isLt).toNat : Int) = (pairs[k.val]'k.isLt).1 := by decide +kernel
theorem madeIn_drop {k : Nat} (h : k < 27) (c m : Int) : madeIn (pairs.drop k) c m = if c = (pairs[k]'h).1 ∧ m = (pairs[k]'h).2.1 then (pairs[k]'h).2.2 else madeIn (pairs.drop (k + 1)) c m := by
  rw [List.drop_eq_getElem_cons (l := pairs) (i := k) h]
  rfl
def MadeR (c m : Int) (w : World) (e : Ending) (w' : World) : Prop := e = .returned (.int .i32 (madeOf c m)) ∧ Below w.heap.size w w'

set_option maxHeartbeats 1000000 in
set_option maxRecDepth 100000 in
theorem made_any (c m : Int) (w : World) :
    Calls Tryz.prog 70 #[.int .i32 c, .int .i32 m] w (MadeR c m w) := by
  go_enter Tryz.func70, Tryz.ntmps70
  go_wp2
  go_loopw [8] (fun i wr => ∃ k : Nat, k ≤ 27 ∧ i = .int .i64 k ∧ Tabs w wr ∧ madeIn (pairs.drop k) c m = madeOf c m) (fun i _ => 27 - (intOf i).toNat)
  case atStart => exact ⟨0, Nat.zero_le _, rfl, tabs_new w, rfl⟩
  case round =>
    obtain ⟨k, hk, rfl, ht, hin⟩ := hrel
    have HT := Lib.hid ht
    by_cases hlt : k < 27
    · have hof := of_fin ⟨k, hlt⟩
      rw [madeIn_drop hlt] at hin
      obtain ⟨hc1, hc2⟩ := ht.1 k (pairs[k]'hlt) (List.getElem?_eq_getElem (l := pairs) hlt)
      obtain ⟨p, hp⟩ : ∃ p, (pairs[k]'hlt) = p := ⟨_, rfl⟩
      have ha := pairs_byte _ (List.getElem_mem (l := pairs) hlt)
      simp only [hp] at hof hin hc1 hc2 ha
      obtain ⟨a, b, z⟩ := p
      simp only at hof hin hc1 hc2 ha
      obtain ⟨ha0, ha1⟩ := ha
      clear hp ht
      by_cases hca : c = a
      · by_cases hmb : m = b
        · rw [if_pos ⟨hca, hmb⟩] at hin
          have HI := Lib.hid hin
          have e1 : (c == a) = true := beq_iff_eq.2 hca
          have e2 : (m == b) = true := beq_iff_eq.2 hmb
          clear hin hca hmb
          go_wp2
          go_ret
          exact ⟨ret_int HI.out, HT.out.2⟩
        · rw [if_neg (fun e => hmb e.2)] at hin
          have HI := Lib.hid hin
          have e1 : (c == a) = true := beq_iff_eq.2 hca
          have e2 : (m == b) = false := beq_eq_false_iff_ne.2 hmb
          clear hin hca hmb
          go_wp2
          go_roundw
          case rel => exact ⟨k + 1, by omega, by go_num, HT.out, HI.out⟩
          case measure => simp [intOf]; omega
      · rw [if_neg (fun e => hca e.1)] at hin
        have HI := Lib.hid hin
        have e1 : (c == a) = false := beq_eq_false_iff_ne.2 hca
        clear hin hca
        go_wp2
        go_roundw
        case rel => exact ⟨k + 1, by omega, by go_num, HT.out, HI.out⟩
        case measure => simp [intOf]; omega
    · have HI : Hid (madeOf c m = 0) := by
        show madeOf c m = 0
        rw [← hin, List.drop_eq_nil_of_le (by show 27 ≤ k; omega)]
        rfl
      clear hin ht
      go_wp2
      go_ret
      exact ⟨ret_int HI.out.symm, HT.out.2⟩
end Go.Proofs.YtfaieldafoeaiaaGreatDoor

/-
  The document's Compose and Fold of layer 5, by their contracts.
-/
namespace Go.Proofs.YtfaieldafoeaiaaGreatDoor
open Go.RowKit

theorem grown_undrew5 {w w1 : World} {o : Option Nat} (h : w.drew.grownBy w1 o) : w.grownBy w1 o := ⟨h.os, h.tape, h.output, h.size, h.block⟩
theorem below_drew {w w1 : World} (h : Below w.drew.heap.size w.drew w1) : Below w.heap.size w w1 := (below_drewN (Below.refl _ w) 1).trans h
def CompPost (l : List Int) (w : World) (e : Ending) (w' : World) : Prop := ∃ v, e = .returned v ∧ Made w w' v l
theorem made_is {c m z : Int} (h : madeOf c m = z) (w : World) : Calls Tryz.prog 70 #[.int .i32 c, .int .i32 m] w fun e w' => e = .returned (.int .i32 z) ∧ Below w.heap.size w w' := h ▸ made_any c m w
theorem drop_two {l : List Int} {k : Nat} (h : k + 1 < l.length) : l.drop k = l[k] :: l[k + 1] :: l.drop (k + 2) := by
  rw [List.drop_eq_getElem_cons (by omega), List.drop_eq_getElem_cons h]

set_option maxHeartbeats 2000000 in
set_option maxRecDepth 100000 in
theorem compose_any (A : Option Addr) (l : List Int) (cap : Nat) (w : World) (hr : Runes w A l) (hl : l.length ≤ 2000) :
    Calls Tryz.prog 36 #[.slice A l.length cap] w (CompPost (comp l) w) := by
  obtain ⟨i0, hi, hz0, hz1, hz2⟩ := info_parts Tryz.infoR
  have HI := Lib.hid (And.intro hi (And.intro hz0 (And.intro hz1 hz2)))
  have HR := Lib.hid hr
  clear hi hz0 hz1 hz2 hr
  go_enter Tryz.func36, Tryz.ntmps36
  go_wp2
  go_loopw [3, 4] (fun v i wr => ∃ (k : Nat) (o : List Int), k ≤ l.length ∧ i = .int .i64 k ∧ Made w wr v o ∧ comp l = o ++ comp (l.drop k) ∧ o.length ≤ k) (fun _ i _ => l.length - (intOf i).toNat)
  case atStart => exact ⟨0, [], Nat.zero_le _, rfl, ⟨World.ownsRow_nil _ _ _ _, Below.refl _ _⟩, rfl, Nat.le_refl _⟩
  case round =>
    obtain ⟨k, o, hk, rfl, hm, hd, ho⟩ := hrel
    have HM := Lib.hid hm
    have HD := Lib.hid hd
    clear hd
    by_cases hlt : k < l.length
    · obtain ⟨b, off, rfl, hblt, hc⟩ := (HR.out.below hm.2) k l[k] (List.getElem?_eq_getElem hlt)
      have hz := hm.2.size
      clear hm
      by_cases hlt2 : k + 1 < l.length
      · have hm := HM.out
        obtain ⟨b', off', e', _, hc2⟩ := (HR.out.below hm.2) (k + 1) l[k + 1] (List.getElem?_eq_getElem hlt2)
        cases e'
        clear hm
        have HDr := Lib.hid (drop_two hlt2)
        have HDr2 : Hid (l.drop (k + 1) = l[k + 1] :: l.drop (k + 2)) := List.drop_eq_getElem_cons hlt2
        have HPc : Hid (∀ wx, Below w.heap.size w wx → wx.cell? ⟨b, off + k, none⟩ = some (.int .i32 l[k]) ∧ wx.cell? ⟨b, off + (k + 1), none⟩ = some (.int .i32 l[k + 1])) := by
          intro wx hwx
          obtain ⟨b1, o1, e1, _, g1⟩ := (HR.out.below hwx) k l[k] (List.getElem?_eq_getElem hlt)
          obtain ⟨b2, o2, e2, _, g2⟩ := (HR.out.below hwx) (k + 1) l[k + 1] (List.getElem?_eq_getElem hlt2)
          cases e1
          cases e2
          exact ⟨g1, g2⟩
        obtain ⟨x, hx⟩ : ∃ x, l[k] = x := ⟨_, rfl⟩
        obtain ⟨y, hy⟩ : ∃ y, l[k + 1] = y := ⟨_, rfl⟩
        rw [hx] at hc HDr HPc
        rw [hy] at hc2 HDr HDr2 HPc
        clear hx hy
        have hg : decide ((k : Int) + 1 < (l.length : Int)) = true := by simp; omega
        have hw1 : IntKind.i64.wrap ((k : Int) + 1) = (k : Int) + 1 := IntWalk.i64_in _ (by omega)
        have ht1 : ((k : Int) + 1).toNat = k + 1 := by omega
        have hin1 : (0 : Int) ≤ (k : Int) + 1 := by omega
        have hin2 : (k : Int) + 1 < (l.length : Int) := by omega
        have hin3 : (0 : Int) ≤ (k : Int) := by omega
        have hin4 : (k : Int) < (l.length : Int) := by omega
        by_cases hz0 : madeOf x y = 0
        · have HZ := Lib.hid hz0
          clear hz0
          go_wp2_with fail
          go_region_held3 (fun w' => w'.cell? ⟨b, off + k, none⟩ = some (.int .i32 x) ∧ w'.cell? ⟨b, off + (k + 1), none⟩ = some (.int .i32 y)) (first | exact ⟨hc, hc2⟩ | exact ⟨hc3, hc4⟩ | go_keep) (first
            | (go_at_call 70; refine (made_is HZ.out _).mono ?_; rintro e w1 ⟨rfl, hb⟩; have HB := Lib.hid (below_drew hb); have hc3 := (HB.out.cell (p := ⟨b, off + k, none⟩) hblt).trans hc; have hc4 := (HB.out.cell (p := ⟨b, off + (k + 1), none⟩) hblt).trans hc2; clear hb))
          have HM := Lib.hid (HM.out.carry HB.out)
          go_wp2_with (at_builtin
                       refine wpList_append_own _ rfl (.tmp 42) (.tmp 47) 22 rfl w.heap.size 21 i0 _ 1 4 Tryz.underlying22 HI.out.1 HI.out.2.1 HI.out.2.2.1 HI.out.2.2.2 rfl (by decide) _ _ _ rfl (HM.out.1.alloc _) ⟨w1.heap.size, 0, none⟩ 1 1 [.int .i32 x] rfl rfl (cell_one_new _ _ _) (by simp [Value.oneCell']) ?ha ?hb ?hc ?_
                       case ha => simp only [maxLen]; omega
                       case hb => omega
                       case hc => have := HM.out.2.size; simp; omega
                       intro v' w2 hown' hgrow _)
          go_roundw
          case rel => exact ⟨k + 1, o ++ [x], hlt, by go_num, HM.out.push hown' hgrow, by rw [HD.out, HDr.out, comp_keep HZ.out, List.append_assoc, HDr2.out]; rfl, by simp; omega⟩
          case measure => simp [intOf]; omega
        · obtain ⟨z, hz1⟩ : ∃ z, madeOf x y = z := ⟨_, rfl⟩
          have HN := Lib.hid hz0
          rw [hz1] at hz0
          have hzn : (z != 0) = true := bne_iff_ne.2 hz0
          have HZ := Lib.hid hz1
          clear hz0 hz1
          go_wp2_with fail
          go_region_held3 (fun w' => w'.cell? ⟨b, off + k, none⟩ = some (.int .i32 x) ∧ w'.cell? ⟨b, off + (k + 1), none⟩ = some (.int .i32 y)) (first | exact ⟨hc, hc2⟩ | exact ⟨hc3, hc4⟩ | go_keep) (first
            | (go_at_call 70; refine (made_is HZ.out _).mono ?_; rintro e w1 ⟨rfl, hb⟩; have HB := Lib.hid (below_drew hb); have hc3 := (HB.out.cell (p := ⟨b, off + k, none⟩) hblt).trans hc; have hc4 := (HB.out.cell (p := ⟨b, off + (k + 1), none⟩) hblt).trans hc2; clear hb))
          have HM := Lib.hid (HM.out.carry HB.out)
          have hblt1 : b < w1.heap.size := Nat.lt_of_lt_of_le hblt HB.out.size
          have hz := HM.out.2.size
          clear hc hc2
          go_wp2_with fail
          go_region_held3 (fun w' => w'.cell? ⟨b, off + k, none⟩ = some (.int .i32 x) ∧ w'.cell? ⟨b, off + (k + 1), none⟩ = some (.int .i32 y)) (first | exact ⟨hc3, hc4⟩ | exact ⟨hc5, hc6⟩ | exact ⟨hc7, hc8⟩ | go_keep) (first
            | (refine step_append_lies _ (by rfl) (.tmp 27) (.tmp 38) 22 (by rfl) w.heap.size 21 i0 (.int .i32 0) 1 4 Tryz.underlying22 HI.out.1 HI.out.2.1 HI.out.2.2.1 HI.out.2.2.2 rfl (by decide) _ _ _ (by rfl) (HM2.out.1.alloc (.cells #[.int .i32 z] 21)) ⟨w2.heap.size, 0, none⟩ 1 1 [.int .i32 z] (by rfl) rfl (cell_one_new w2 _ _) (by simp [Value.oneCell']) (by decide) (by simp only [maxLen]; omega) (by omega) (by have := HM2.out.2.size; simp; omega) (w2.heap.size + 1) (by simp) ?_
               intro g cap3 w3 hown hgrow hat hlt3
               have hpu := HM2.out.push hown hgrow
               have hc7 := ((HPc.out _ hpu.2)).1
               have hc8 := ((HPc.out _ hpu.2)).2)
            | (go_at_call 70; refine (made_is HZ.out _).mono ?_; rintro e w2 ⟨rfl, hb⟩; have HB2 := Lib.hid (below_drew hb); have HM2 := Lib.hid (HM.out.carry HB2.out); have hc5 := (HB2.out.cell (p := ⟨b, off + k, none⟩) hblt1).trans hc3; have hc6 := (HB2.out.cell (p := ⟨b, off + (k + 1), none⟩) hblt1).trans hc4; clear hb))
          all_goals
            go_wp2
            go_roundw
            case rel => exact ⟨k + 2, o ++ [z], by omega, by go_num, hpu, by rw [HD.out, HDr.out, comp_pair HN.out, HZ.out, List.append_assoc]; rfl, by simp; omega⟩
            case measure => simp [intOf]; omega
      · have HDr := Lib.hid (show l.drop k = [l[k]] by rw [List.drop_eq_getElem_cons hlt, List.drop_eq_nil_of_le (by omega)])
        have hnil : l.drop (k + 1) = [] := List.drop_eq_nil_of_le (by omega)
        have HNil := Lib.hid hnil
        clear hnil
        obtain ⟨x, hx⟩ : ∃ x, l[k] = x := ⟨_, rfl⟩
        rw [hx] at hc HDr
        clear hx
        have hg : decide ((k : Int) + 1 < (l.length : Int)) = false := by simp; omega
        have hw1 : IntKind.i64.wrap ((k : Int) + 1) = (k : Int) + 1 := IntWalk.i64_in _ (by omega)
        clear hlt2
        go_wp2_with fail
        go_quiet (fail)
        have hbw : Below wr.heap.size wr (wr.drewN nq) := below_drewN (Below.refl _ _) _
        have hc9 := (hbw.cell (p := ⟨b, off + k, none⟩) hblt).trans hc
        have HM := Lib.hid (HM.out.carry hbw)
        generalize wr.drewN nq = w1 at hbw hc9 HM ⊢
        clear hbw hc hg hw1
        go_wp2_with (at_builtin
                     refine wpList_append_own _ rfl (.tmp 42) (.tmp 47) 22 rfl w.heap.size 21 i0 _ 1 4 Tryz.underlying22 HI.out.1 HI.out.2.1 HI.out.2.2.1 HI.out.2.2.2 rfl (by decide) _ _ _ rfl (HM.out.1.alloc _) ⟨w1.heap.size, 0, none⟩ 1 1 [.int .i32 x] rfl rfl (cell_one_new _ _ _) (by simp [Value.oneCell']) ?ha ?hb ?hc ?_
                     case ha => simp only [maxLen]; omega
                     case hb => omega
                     case hc => have := HM.out.2.size; simp; omega
                     intro v' w2 hown' hgrow _)
        go_roundw
        case rel => exact ⟨k + 1, o ++ [x], hlt, by go_num, HM.out.push hown' hgrow, by rw [HD.out, HDr.out, HNil.out, List.append_assoc]; rfl, by simp; omega⟩
        case measure => simp [intOf]; omega
    · have HE : Hid (o = comp l) := by
        show o = comp l
        rw [HD.out, List.drop_eq_nil_of_le (by omega)]
        simp [comp]
      clear hm
      go_wp2
      go_ret
      exact ⟨_, rfl, HE.out ▸ HM.out⟩
end Go.Proofs.YtfaieldafoeaiaaGreatDoor

/-
  The document's Fold of layer 5, by its contract.
-/
namespace Go.Proofs.YtfaieldafoeaiaaGreatDoor
open Go.RowKit

/-- 'append(s, x...)', both of them rows of runes that the call made. -/
theorem append_made {ops : Array Oper} {rest : List Oper} {o : Oper} {a : Act} {Q : Exit → Act → World → Prop} {W w0 w : World} (hgd : o.guard = none) (s x : Operand)
    (ho : o.op = .call { callee := .builtin .append, args := #[s, x], argTypes := #[22, 22] })
    (v vx : Value) (l lx : List Int) (hs : a.eval s = v) (hx : a.eval x = vx) (h1 : Made W w v l) (h2 : Made w0 w vx lx) (hl : l.length + lx.length ≤ 4000)
    (h : ∀ v' w', Made W w' v' (l ++ lx) → wpList Tryz.prog ops Q rest (a.put o.dst v') w') : wpList Tryz.prog ops Q (o :: rest) a w := by
  obtain ⟨i0, hi, hz0, hz1, hz2⟩ := info_parts Tryz.infoR
  have h2' := h2.1
  rcases h2.1.2 with ⟨rfl, h0⟩ | ⟨g, cap, cur, rfl, _⟩
  · obtain rfl := List.eq_nil_of_length_eq_zero h0
    refine wpList_append_own_none hgd s x _ ho W.heap.size 21 i0 1 Tryz.underlying22 hi v _ _ hs h1.1 hx (h v w (by rw [List.append_nil]; exact h1))
  · refine wpList_append_own w hgd s x _ ho W.heap.size 21 i0 _ 1 4 Tryz.underlying22 hi hz0 hz1 hz2 rfl (by decide) v _ _ hs h1.1 ⟨g, 0, none⟩ lx.length cap (lx.map (Value.int .i32)) hx (by simp) (fun j u hu => ?_) (fun u hu => ?_) (by simp only [maxLen]; omega) (by omega) h1.2.size (fun v' w' hown hg _ => h v' w' ⟨?_, ?_⟩)
    · rw [add_at, Nat.zero_add, h2'.cellAt (g := g) j (by have := (List.getElem?_eq_some_iff.1 hu).1; simpa using this)]
      exact hu
    · obtain ⟨c, _, rfl⟩ := List.mem_map.1 hu
      rfl
    · show w'.ownsRow W.heap.size 21 1 v' _ _
      rw [List.length_append, List.map_append]; exact hown
    · exact h1.2.grown hg h1.2.size (own_ge h1.1)

theorem mapAll_bad {l : List Int} {k : Nat} (h : k < l.length) (hb : Barred l[k]) : mapAll l = none := by
  have e : l = l.take k ++ l[k] :: l.drop (k + 1) := by rw [← List.drop_eq_getElem_cons h, List.take_append_drop]
  rw [e, mapAll_append]
  have : mapAll (l[k] :: l.drop (k + 1)) = none := by unfold mapAll; rw [if_pos hb]
  rw [this]
  cases mapAll (l.take k) <;> rfl
theorem mapAll_step {l m : List Int} {k : Nat} (h : k < l.length) (hb : ¬ Barred l[k]) (hm : mapAll (l.take k) = some m) : mapAll (l.take (k + 1)) = some (m ++ mapTo l[k]) := by
  rw [List.take_succ_eq_append_getElem h, mapAll_append, hm]
  simp [mapAll, hb]
theorem mapTo_length (c : Int) : (mapTo c).length ≤ 2 := by
  unfold mapTo down
  repeat' split
  all_goals simp
theorem comp_length : ∀ (n : Nat) (l : List Int), l.length ≤ n → (comp l).length ≤ l.length := by
  intro n
  induction n with
  | zero => intro l h; rw [List.eq_nil_of_length_eq_zero (l := l) (by omega)]; exact Nat.le_refl _
  | succ n ih =>
    intro l h
    match l, h with
    | [], _ => exact Nat.le_refl _
    | [a], _ => exact Nat.le_refl _
    | a :: b :: t, h =>
      simp only [List.length_cons] at h
      by_cases e : madeOf a b = 0
      · rw [comp_keep e]
        have := ih (b :: t) (by simp only [List.length_cons]; omega)
        simp only [List.length_cons] at this ⊢
        omega
      · rw [comp_pair e]
        have := ih t (by omega)
        simp only [List.length_cons]
        omega
theorem mapAll_length {l m : List Int} (h : mapAll l = some m) : m.length ≤ 2 * l.length := by
  induction l generalizing m with
  | nil => simp only [mapAll, Option.some.injEq] at h; subst h; simp
  | cons c l ih =>
    unfold mapAll at h
    split at h
    · cases h
    · obtain ⟨k, hk, rfl⟩ := Option.map_eq_some_iff.1 h
      have h1 := ih hk
      have h2 := mapTo_length c
      rw [List.length_append, List.length_cons]
      omega

def FoldTwo (o : Option (List Int)) (w : World) (e : Ending) (w' : World) : Prop := match o with
  | none => e = .returned (.tuple #[.slice none 0 0, .int .i64 2]) ∧ Below w.heap.size w w'
  | some l => ∃ v, e = .returned (.tuple #[v, .int .i64 0]) ∧ Made w w' v l
theorem Made.lower5 {w w1 w' : World} {v : Value} {l : List Int} (h : Made w1 w' v l) (hb : Below w.heap.size w w1) : Made w w' v l := by
  obtain ⟨⟨h1, h2⟩, h3⟩ := h
  refine ⟨⟨h1, ?_⟩, hb.trans (h3.mono hb.size)⟩
  have := hb.size
  rcases h2 with h2 | ⟨g, cap, cur, rfl, hg, hh, r⟩
  · exact .inl h2
  · exact .inr ⟨g, cap, cur, rfl, by omega, hh, r⟩

set_option maxHeartbeats 1000000 in
set_option maxRecDepth 100000 in
theorem refFold_any (A : Option Addr) (l : List Int) (cap : Nat) (w : World) (hr : Runes w A l) (hl : l.length ≤ 900) :
    Calls Tryz.prog 12 #[.slice A l.length cap] w (FoldTwo (foldL l) w) := by
  have HR := Lib.hid hr
  clear hr
  go_enter Tryz.func12, Tryz.ntmps12
  go_wp2
  go_loopw [4, 5] (fun v i wr => ∃ (k : Nat) (m : List Int), k ≤ l.length ∧ i = .int .i64 k ∧ Made w wr v m ∧ mapAll (l.take k) = some m) (fun _ i _ => l.length - (intOf i).toNat)
  case atStart => exact ⟨0, [], Nat.zero_le _, rfl, ⟨World.ownsRow_nil _ _ _ _, Below.refl _ _⟩, rfl⟩
  case round =>
    obtain ⟨k, m, hk, rfl, hm, hmm⟩ := hrel
    have HM := Lib.hid hm
    have HMm := Lib.hid hmm
    have hml : m.length ≤ 1800 := by
      have := mapAll_length hmm
      rw [List.length_take] at this
      omega
    clear hmm
    by_cases hlt : k < l.length
    · obtain ⟨b, off, rfl, _, hc⟩ := (HR.out.below hm.2) k l[k] (List.getElem?_eq_getElem hlt)
      clear hm
      by_cases hb : Barred l[k]
      · have HN : Hid (foldL l = none) := by
          show foldL l = none
          unfold foldL
          rw [mapAll_bad hlt hb]; rfl
        obtain ⟨x, hx⟩ : ∃ x, l[k] = x := ⟨_, rfl⟩
        rw [hx] at hc hb
        have HBd := Lib.hid hb
        clear hx hb
        go_wp2_with (go_at_call 35; refine (map_bad _ _ HBd.out).mono ?_; rintro e w1 ⟨rfl, hb1⟩; have HB1 := Lib.hid (HM.out.carry hb1); clear hb1)
        go_ret2
        rw [HN.out]
        exact ⟨rfl, HB1.out.2⟩
      · have HSt := Lib.hid (mapAll_step hlt hb HMm.out)
        have hml2 := mapTo_length l[k]
        obtain ⟨x, hx⟩ : ∃ x, l[k] = x := ⟨_, rfl⟩
        rw [hx] at hc hb HSt hml2
        have HBd := Lib.hid hb
        have HLe := Lib.hid hml2
        clear hx hb hml2
        go_wp2_with (first
          | (go_at_call 35; refine (map_good _ _ HBd.out).mono ?_; rintro e w1 ⟨v1, rfl, hm1⟩; have HM1 := Lib.hid hm1; have HMc := Lib.hid (HM.out.carry hm1.2); clear hm1)
          | (at_builtin
             refine append_made rfl (.tmp 24) (.tmp 25) rfl _ v1 m (mapTo x) rfl rfl HMc.out HM1.out ?ha ?_
             case ha => have := HLe.out; omega
             intro v2 w2 hm2
             have HM2 := Lib.hid hm2
             clear hm2))
        go_roundw
        case rel => exact ⟨k + 1, m ++ mapTo x, hlt, by go_num, HM2.out, HSt.out⟩
        case measure => simp [intOf]; omega
    · have HS : Hid (foldL l = some (comp m)) := by
        show foldL l = some (comp m)
        have := HMm.out
        rw [List.take_of_length_le (by omega)] at this
        unfold foldL
        rw [this]; rfl
      obtain ⟨A2, c2, e2, hr2⟩ := hm.runes
      subst e2
      have HR2 := Lib.hid hr2
      clear hm hr2
      go_wp2_with (go_at_call 36; refine (compose_any A2 m c2 _ HR2.out (by omega)).mono ?_; rintro e w3 ⟨v3, rfl, hm3⟩; have HM3 := Lib.hid (hm3.lower5 HM.out.2); clear hm3)
      go_ret2
      rw [HS.out]
      exact ⟨_, rfl, HM3.out⟩
end Go.Proofs.YtfaieldafoeaiaaGreatDoor

/-
  The document's plain, marked, decoded of layer 6, by their contracts.
-/
namespace Go.Proofs.YtfaieldafoeaiaaGreatDoor
open Go.RowKit

theorem plain_no {l : List Int} {k : Nat} (h : k < l.length) (hb : ¬ l[k] < 128) : plainL l = false := by
  unfold plainL
  rw [List.all_eq_false]
  exact ⟨l[k], List.getElem_mem h, by simpa using hb⟩
theorem plain_yes {l : List Int} (h : ∀ c ∈ l, c < 128) : plainL l = true := by
  unfold plainL
  rw [List.all_eq_true]
  exact fun c hc => decide_eq_true (h c hc)
theorem take_all {l : List Int} {k : Nat} (h : k < l.length) {p : Int → Prop} (h1 : ∀ c ∈ l.take k, p c) (h2 : p l[k]) : ∀ c ∈ l.take (k + 1), p c := by
  intro c hc
  rw [List.take_succ_eq_append_getElem h] at hc
  rcases List.mem_append.1 hc with hc | hc
  · exact h1 c hc
  · rw [List.mem_singleton] at hc; subst hc; exact h2

theorem tellK_log6 (bias : Nat) : ∀ (n q k : Nat), q < 10 ^ n → (tellK q bias k).length ≤ n + 1 := by
  intro n
  induction n with
  | zero =>
    intro q k h
    have ht := thr_pos k bias
    rw [tellK_small (by omega)]; simp
  | succ n ih =>
    intro q k h
    have ht := thr_pos k bias
    by_cases hq : q < thr k bias
    · rw [tellK_small hq]; simp
    · rw [tellK_more hq, List.length_cons]
      have h1 : (q - thr k bias) / (36 - thr k bias) ≤ (q - thr k bias) / 10 := Nat.div_le_div_left (by omega) (by omega)
      have h2 : (q - thr k bias) / 10 < 10 ^ n := by
        rw [Nat.pow_succ] at h
        omega
      have := ih ((q - thr k bias) / (36 - thr k bias)) (k + 36) (Nat.lt_of_le_of_lt h1 h2)
      omega
theorem tells_len6 (basic : Nat) (ds : List Nat) : ∀ (bias h : Nat), (∀ d ∈ ds, d < 1000000000) → (tells basic ds bias h).length ≤ 10 * ds.length := by
  induction ds with
  | nil => intro bias h _; simp [tells]
  | cons d ds ih =>
    intro bias h hd
    have h1 := ih (adapt d (h + 1) (h == basic)) (h + 1) (fun x hx => hd x (List.mem_cons_of_mem _ hx))
    have h2 := tellK_log6 bias 9 d 36 (by have := hd d (List.mem_cons_self ..); simpa using this)
    show (tellK d bias 36 ++ _).length ≤ _
    rw [List.length_append, List.length_cons]
    omega
theorem deltas_small6 (ds : List Nat) : ∀ (cur : List Nat) (n i : Nat), (∀ x ∈ (runD ds cur n i).1, sc x = true) → (runD ds cur n i).1.length ≤ 250 → ∀ d ∈ ds, d < 1000000000 := by
  induction ds with
  | nil => intro cur n i _ _ d hd; cases hd
  | cons d ds ih =>
    intro cur n i hs hl x hx
    have hlen : cur.length + (d :: ds).length ≤ 250 := by rw [← runD_length (d :: ds) cur n i]; exact hl
    rw [List.length_cons] at hlen
    rcases List.mem_cons.1 hx with rfl | hx
    · have hin : n + (i + x) / (cur.length + 1) ∈ (runD (x :: ds) cur n i).1 := runD_mem ds _ _ _ _ (mem_ins.2 (.inl rfl))
      have hsc := hs _ hin
      have hle : (i + x) / (cur.length + 1) ≤ 1114111 := by
        have := sc_lt hsc
        exact Nat.le_trans (Nat.le_add_left _ _) (Nat.le_of_lt_succ this)
      have hb1 : i + x < 1114112 * (cur.length + 1) := (Nat.div_lt_iff_lt_mul (by omega)).1 (by omega)
      have hb : i + x < 1114112 * 251 := Nat.lt_of_lt_of_le hb1 (Nat.mul_le_mul_left _ (by omega))
      omega
    · exact ih _ _ _ hs hl x hx
theorem penc_len6 {l : List Nat} (hs : ∀ x ∈ l, sc x = true) (hl : l.length ≤ 250) : (penc l).length ≤ 11 * l.length + 1 := by
  have hr := run_deltas hs
  have h1 := deltas_small6 (deltas l l.length 128 0 (basicOf l).length) (basicOf l) 128 0 (by rw [hr]; exact hs) (by rw [hr]; exact hl)
  have h2 := tells_len6 (basicOf l).length (deltas l l.length 128 0 (basicOf l).length) 72 (basicOf l).length h1
  have h3 := runD_length (deltas l l.length 128 0 (basicOf l).length) (basicOf l) 128 0
  rw [hr] at h3
  have h4 : (basicOf l).length ≤ l.length := List.length_filter_le _ _
  unfold penc
  rw [List.length_append, List.length_append, List.length_map]
  split <;> simp only [List.length_nil, List.length_cons] <;> omega
theorem pdec_len6 {s : List UInt8} {l : List Nat} (h : pdec s = some l) : l.length ≤ s.length := by
  have main : ∀ (f : Nat) (t : List UInt8) (cur : List Nat), (∀ x ∈ cur, x < 128) → decT f t cur 128 0 72 = some l → l.length ≤ cur.length + t.length := by
    intro f t cur hcur hd
    obtain ⟨ds, h1, h2, _⟩ := tells_decT cur.length f t cur 128 0 72 l hd (.inl ⟨rfl, rfl⟩) (fun x hx => sc_small (hcur x hx))
    have h3 := dtells_length cur.length ds 72 cur.length
    rw [← h1, List.length_map] at h3
    rw [← h2, runD_length]
    omega
  unfold pdec at h
  split at h
  · cases h
  · rename_i hany
    have hsm : ∀ b ∈ s, b.toNat < 128 := by
      intro b hb
      have := List.any_eq_false.1 (Bool.eq_false_iff.2 hany) b hb
      simp at this; omega
    split at h
    · have := main _ _ _ (fun x hx => by
        obtain ⟨y, hy, rfl⟩ := List.mem_map.1 hx
        exact hsm y (List.mem_of_mem_take hy)) h
      simp only [List.length_map, List.length_take, List.length_drop] at this
      omega
    · have := main _ _ _ (fun x hx => by cases hx) h
      simpa using this

set_option maxHeartbeats 400000 in
theorem plain_any (A : Option Addr) (l : List Int) (cap : Nat) (w : World) (h : Runes w A l) (hl : l.length ≤ 100000) :
    Calls Tryz.prog 24 #[.slice A l.length cap] w fun e w' => e = .returned (.bool (plainL l)) ∧ w = w' := by
  go_enter Tryz.func24, Tryz.ntmps24
  go_wp2
  go_loopw [3] (fun i wr => ∃ k : Nat, k ≤ l.length ∧ i = .int .i64 k ∧ wr = w ∧ ∀ c ∈ l.take k, c < 128) (fun i _ => l.length - (intOf i).toNat)
  case atStart => exact ⟨0, Nat.zero_le _, rfl, rfl, by simp⟩
  case round =>
    obtain ⟨k, hk, rfl, hw, hp⟩ := hrel
    have := hw.symm; subst this
    have HP := Lib.hid hp
    clear hp hw
    by_cases hlt : k < l.length
    · obtain ⟨b, off, rfl, _, hc⟩ := h k l[k] (List.getElem?_eq_getElem hlt)
      clear h
      by_cases hs : l[k] < 128
      · have HN := Lib.hid (take_all hlt HP.out hs)
        go_wp2
        go_roundw
        case rel => exact ⟨k + 1, by omega, by go_num, by first | rfl | trivial, HN.out⟩
        case measure => simp [intOf]; omega
      · have HN := Lib.hid (plain_no hlt hs)
        go_wp2
        go_ret
        exact ⟨by rw [HN.out]; rfl, rfl⟩
    · have HN : Hid (plainL l = true) := plain_yes (by have := HP.out; rw [List.take_of_length_le (by omega)] at this; exact this)
      clear h
      go_wp2
      go_ret
      exact ⟨by rw [HN.out]; rfl, rfl⟩

set_option maxHeartbeats 400000 in
theorem marked_any (A : Option Addr) (l : List Int) (cap : Nat) (w : World) (h : Runes w A l) (hl : l.length ≤ 100000) :
    Calls Tryz.prog 26 #[.slice A l.length cap] w fun e w' => e = .returned (.bool (markL l)) ∧ w = w' := by
  cases l with
  | nil =>
    clear h
    go_enter Tryz.func26, Tryz.ntmps26
    go_wp2
    go_ret
    exact ⟨rfl, rfl⟩
  | cons c l =>
    obtain ⟨b, off, rfl, _, hc⟩ := h 0 c rfl
    clear h
    rw [Nat.add_zero] at hc
    rw [List.length_cons] at hl ⊢
    have HM : Hid (markL (c :: l) = (decide (768 ≤ c) && decide (c ≤ 879))) := rfl
    by_cases h1 : 768 ≤ c <;> by_cases h2 : c ≤ 879
    all_goals
      go_enter Tryz.func26, Tryz.ntmps26
      go_wp2
      all_goals
        go_ret
        refine ⟨ret_bool ?_, rfl⟩
        rw [HM.out]
        simp [h1, h2]
        try omega

theorem zs_ints (l : List Nat) : zs l = ints l := rfl
def OkPost (s : ByteArray) (w : World) (e : Ending) (w' : World) : Prop := e = .returned (.int .i64 (if okDec s.data.toList then 0 else 2)) ∧ Below w.heap.size w w'
set_option maxHeartbeats 1000000 in
set_option maxRecDepth 100000 in
theorem decoded_any (s : ByteArray) (w : World) (hs : s.size ≤ 900) : Calls Tryz.prog 25 #[.string s] w (OkPost s w) := by
  have HD := refDec_any s w (by omega)
  cases hp : pdec s.data.toList with
  | none =>
    have HO : Hid (okDec s.data.toList = false) := by show okDec s.data.toList = false; unfold okDec; rw [hp]
    rw [hp] at HD
    clear hp
    go_enter Tryz.func25, Tryz.ntmps25
    go_wp2_with (go_at_call 56; refine HD.mono ?_; rintro e w1 ⟨rfl, hb1⟩; have HB := Lib.hid hb1; clear hb1)
    go_ret
    exact ⟨by rw [HO.out]; rfl, HB.out⟩
  | some l =>
    rw [hp] at HD
    have hll : l.length ≤ 900 := by have := pdec_len6 hp; simp at this; omega
    have HO : Hid (okDec s.data.toList = (!(plainL (ints l)) && !(markL (ints l)) && decide (foldL (ints l) = some (ints l)))) := by
      show okDec s.data.toList = _
      unfold okDec; rw [hp]; rfl
    clear hp
    cases hpl : plainL (ints l) with
    | true =>
      rw [hpl] at HO
      have HPl := Lib.hid hpl
      clear hpl
      go_enter Tryz.func25, Tryz.ntmps25
      go_wp2_with (first
        | (go_at_call 56; refine HD.mono ?_; rintro e w1 ⟨v1, rfl, hm1⟩; obtain ⟨A, c, rfl, hr1⟩ := hm1.runes; have HM := Lib.hid hm1; have HR := Lib.hid hr1; clear hm1 hr1)
        | (go_at_call 24; refine (plain_any A (ints l) c _ HR.out (by rw [ints_length]; omega)).mono ?_; rintro e w' ⟨rfl, rfl⟩; rw [HPl.out]))
      go_ret
      exact ⟨by rw [HO.out]; rfl, HM.out.2⟩
    | false =>
      rw [hpl] at HO
      have HPl := Lib.hid hpl
      clear hpl
      cases hmk : markL (ints l) with
      | true =>
        rw [hmk] at HO
        have HMk := Lib.hid hmk
        clear hmk
        go_enter Tryz.func25, Tryz.ntmps25
        go_wp2_with (first
          | (go_at_call 56; refine HD.mono ?_; rintro e w1 ⟨v1, rfl, hm1⟩; obtain ⟨A, c, rfl, hr1⟩ := hm1.runes; have HM := Lib.hid hm1; have HR := Lib.hid hr1; clear hm1 hr1)
          | (go_at_call 24; refine (plain_any A (ints l) c _ HR.out (by rw [ints_length]; omega)).mono ?_; rintro e w' ⟨rfl, rfl⟩; rw [HPl.out])
          | (go_at_call 26; refine (marked_any A (ints l) c _ HR.out (by rw [ints_length]; omega)).mono ?_; rintro e w' ⟨rfl, rfl⟩; rw [HMk.out]))
        go_ret
        exact ⟨by rw [HO.out]; rfl, HM.out.2⟩
      | false =>
        rw [hmk] at HO
        have HMk := Lib.hid hmk
        clear hmk
        cases hfo : foldL (ints l) with
        | none =>
          rw [hfo] at HO
          have HFo := Lib.hid hfo
          clear hfo
          go_enter Tryz.func25, Tryz.ntmps25
          go_wp2_with (first
            | (go_at_call 56; refine HD.mono ?_; rintro e w1 ⟨v1, rfl, hm1⟩; obtain ⟨A, c, rfl, hr1⟩ := hm1.runes; have HM := Lib.hid hm1; have HR := Lib.hid hr1; clear hm1 hr1)
            | (go_at_call 24; refine (plain_any A (ints l) c _ HR.out (by rw [ints_length]; omega)).mono ?_; rintro e w' ⟨rfl, rfl⟩; rw [HPl.out])
            | (go_at_call 26; refine (marked_any A (ints l) c _ HR.out (by rw [ints_length]; omega)).mono ?_; rintro e w' ⟨rfl, rfl⟩; rw [HMk.out])
            | (go_at_call 12; refine (refFold_any A (ints l) c _ HR.out (by rw [ints_length]; omega)).mono ?_; intro e w2 hf; rw [HFo.out] at hf; obtain ⟨rfl, hb2⟩ := hf; have HB2 := Lib.hid hb2; clear hb2))
          go_ret
          exact ⟨by rw [HO.out]; rfl, HM.out.2.trans (HB2.out.mono HM.out.2.size)⟩
        | some f =>
          rw [hfo] at HO
          have HFo := Lib.hid hfo
          have hfl : f.length ≤ 5000 := by
            obtain ⟨m, hm, rfl⟩ := Option.map_eq_some_iff.1 hfo
            have h1 := mapAll_length hm
            have h2 := comp_length m.length m (Nat.le_refl _)
            rw [ints_length] at h1
            omega
          clear hfo
          have HSm : Hid ((!(same f (ints l))) = !(decide (some f = some (ints l)))) := by
            show (!(same f (ints l))) = _
            unfold same
            simp
          cases hsm : same f (ints l) with
          | true =>
            have HS2 := Lib.hid hsm
            rw [hsm] at HSm
            clear hsm
            go_enter Tryz.func25, Tryz.ntmps25
            go_wp2_with (first
              | (go_at_call 56; refine HD.mono ?_; rintro e w1 ⟨v1, rfl, hm1⟩; obtain ⟨A, c, rfl, hr1⟩ := hm1.runes; have HM := Lib.hid hm1; have HR := Lib.hid hr1; clear hm1 hr1)
              | (go_at_call 24; refine (plain_any A (ints l) c _ HR.out (by rw [ints_length]; omega)).mono ?_; rintro e w' ⟨rfl, rfl⟩; rw [HPl.out])
              | (go_at_call 26; refine (marked_any A (ints l) c _ HR.out (by rw [ints_length]; omega)).mono ?_; rintro e w' ⟨rfl, rfl⟩; rw [HMk.out])
              | (go_at_call 12; refine (refFold_any A (ints l) c _ HR.out (by rw [ints_length]; omega)).mono ?_; intro e w2 hf; rw [HFo.out] at hf; obtain ⟨v2, rfl, hm2⟩ := hf; obtain ⟨A2, c2, rfl, hr2⟩ := hm2.runes; have HM2 := Lib.hid hm2; have HR2 := Lib.hid hr2; clear hm2 hr2)
              | (go_at_call 57; refine (same_any A2 A f (ints l) c2 c _ HR2.out (HR.out.below HM2.out.2) hfl).mono ?_; rintro e w3 ⟨rfl, n3, hw3⟩; subst hw3; rw [HS2.out]))
            go_ret
            refine ⟨?_, HM.out.2.trans ((below_drewN HM2.out.2 n3).mono HM.out.2.size)⟩
            have h5 := HSm.out
            have h6 : decide (some f = some (ints l)) = true := by simpa using h5.symm
            rw [HO.out, h6]; rfl
          | false =>
            have HS2 := Lib.hid hsm
            rw [hsm] at HSm
            clear hsm
            go_enter Tryz.func25, Tryz.ntmps25
            go_wp2_with (first
              | (go_at_call 56; refine HD.mono ?_; rintro e w1 ⟨v1, rfl, hm1⟩; obtain ⟨A, c, rfl, hr1⟩ := hm1.runes; have HM := Lib.hid hm1; have HR := Lib.hid hr1; clear hm1 hr1)
              | (go_at_call 24; refine (plain_any A (ints l) c _ HR.out (by rw [ints_length]; omega)).mono ?_; rintro e w' ⟨rfl, rfl⟩; rw [HPl.out])
              | (go_at_call 26; refine (marked_any A (ints l) c _ HR.out (by rw [ints_length]; omega)).mono ?_; rintro e w' ⟨rfl, rfl⟩; rw [HMk.out])
              | (go_at_call 12; refine (refFold_any A (ints l) c _ HR.out (by rw [ints_length]; omega)).mono ?_; intro e w2 hf; rw [HFo.out] at hf; obtain ⟨v2, rfl, hm2⟩ := hf; obtain ⟨A2, c2, rfl, hr2⟩ := hm2.runes; have HM2 := Lib.hid hm2; have HR2 := Lib.hid hr2; clear hm2 hr2)
              | (go_at_call 57; refine (same_any A2 A f (ints l) c2 c _ HR2.out (HR.out.below HM2.out.2) hfl).mono ?_; rintro e w3 ⟨rfl, n3, hw3⟩; subst hw3; rw [HS2.out]))
            go_ret
            refine ⟨?_, HM.out.2.trans ((below_drewN HM2.out.2 n3).mono HM.out.2.size)⟩
            have h5 := HSm.out
            have h6 : decide (some f = some (ints l)) = false := by simpa using h5.symm
            rw [HO.out, h6]; rfl
end Go.Proofs.YtfaieldafoeaiaaGreatDoor

/-
  The document's One of layer 6, by its contract.
-/
namespace Go.Proofs.YtfaieldafoeaiaaGreatDoor
open Go.RowKit

def OnePost (o : Option (List UInt8)) (w : World) (e : Ending) (w' : World) : Prop := match o with
  | none => e = .returned (.tuple #[.string ⟨#[]⟩, .int .i64 2]) ∧ Below w.heap.size w w'
  | some x => e = .returned (.tuple #[.string ⟨x.toArray⟩, .int .i64 0]) ∧ Below w.heap.size w w'
theorem enc_append (a b : List Int) : enc (a ++ b) = enc a ++ enc b := by unfold enc; rw [List.flatMap_append]
theorem fix_all {l : List Int} (h : ∀ c ∈ l, scal c = true) : l.map fix = l := (List.map_congr_left (g := id) fun c hc => fix_scal (h c hc)).trans (List.map_id _)
theorem xn_enc : enc xnI = xnB := by decide +kernel
theorem xn_iff {l : List Int} (h : ∀ c ∈ l, scal c = true) : l.take 4 = xnI ↔ (enc l).take 4 = xnB := by
  constructor
  · intro e
    have : l = xnI ++ l.drop 4 := by rw [← e, List.take_append_drop]
    rw [this, enc_append, xn_enc]; rfl
  · intro e
    have h1 : enc l = enc xnI ++ (enc l).drop 4 := by rw [xn_enc, ← e, List.take_append_drop]
    have h2 := dec_enc0 l
    rw [h1, dec_enc, fix_all h] at h2
    rw [← h2]
    have : xnI.map fix = xnI := by decide
    rw [this]; rfl
theorem xn_rest {l : List Int} (e : l.take 4 = xnI) : (enc l).drop 4 = enc (l.drop 4) := by
  have : l = xnI ++ l.drop 4 := by rw [← e, List.take_append_drop]
  conv => lhs; rw [this, enc_append, xn_enc]
  rfl
theorem all_scal {l : List Int} (h : ∀ c ∈ l, scal c = true) : l.all scal = true := List.all_eq_true.2 h
theorem bytes_eq6 {a b : ByteArray} (h : a.data.toList = b.data.toList) : a = b := by
  obtain ⟨a⟩ := a
  obtain ⟨b⟩ := b
  simp only [Array.toList_inj] at h
  rw [h]
theorem list_data (s : ByteArray) : s.toList = s.data.toList := ByteArray.toList_eq s
theorem take_bytes (s : ByteArray) (k : Nat) : (s.extract 0 k).data.toList = s.data.toList.take k := by
  simp only [ByteArray.data_extract, Array.toList_extract, List.extract_eq_take_drop]
  simp

set_option maxHeartbeats 1000000 in
set_option maxRecDepth 100000 in
/-- One of l is no scalar. -/
theorem one_bad6 (A : Option Addr) (l : List Int) (cap : Nat) (w : World) (h : Runes w A l) (hl : l.length ≤ 250) (hb : ¬ ∀ c ∈ l, scal c = true) :
    Calls Tryz.prog 8 #[.slice A l.length cap] w (OnePost none w) := by
  have HB := Lib.hid hb
  clear hb
  go_enter Tryz.func8, Tryz.ntmps8
  go_wp2
  go_loopw [4] (fun i wr => ∃ k : Nat, k ≤ l.length ∧ i = .int .i64 k ∧ wr = w ∧ ∀ c ∈ l.take k, scal c = true) (fun i _ => l.length - (intOf i).toNat)
  case atStart => exact ⟨0, Nat.zero_le _, rfl, rfl, by simp⟩
  case round =>
    obtain ⟨k, hk, rfl, hw, hp⟩ := hrel
    have := hw.symm; subst this
    have HP := Lib.hid hp
    clear hp hw
    by_cases hlt : k < l.length
    · obtain ⟨b, off, rfl, _, hc⟩ := h k l[k] (List.getElem?_eq_getElem hlt)
      clear h
      have HC := scalar_any l[k] w
      cases hs : scal l[k] with
      | true =>
        rw [hs] at HC
        have HN := Lib.hid (take_all (p := fun c => scal c = true) hlt HP.out hs)
        clear hs
        go_wp2_with (go_at_call 22; refine HC.mono ?_; rintro e w' ⟨rfl, rfl⟩)
        go_roundw
        case rel => exact ⟨k + 1, by omega, by go_num, by first | rfl | trivial, HN.out⟩
        case measure => simp [intOf]; omega
      | false =>
        rw [hs] at HC
        clear hs
        go_wp2_with (go_at_call 22; refine HC.mono ?_; rintro e w' ⟨rfl, rfl⟩)
        go_ret2
        exact ⟨rfl, Below.refl _ _⟩
    · exact absurd (by have := HP.out; rwa [List.take_of_length_le (by omega)] at this) HB.out

/-- How many orders of the tests. -/
theorem lone_xn {l : List Int} (hs : ∀ c ∈ l, scal c = true) (hx : l.take 4 = xnI) : lone l = if plainL l && okDec (enc (l.drop 4)) then some (enc l) else none := by
  unfold lone
  rw [if_pos (all_scal hs), if_pos hx]
theorem lone_plain {l : List Int} (hs : ∀ c ∈ l, scal c = true) (hx : l.take 4 ≠ xnI) (hp : plainL l = true) : lone l = some (enc l) := by
  unfold lone
  rw [if_pos (all_scal hs), if_neg hx, if_pos hp]
theorem lone_mark {l : List Int} (hs : ∀ c ∈ l, scal c = true) (hx : l.take 4 ≠ xnI) (hp : plainL l = false) (hm : markL l = true) : lone l = none := by
  unfold lone
  rw [if_pos (all_scal hs), if_neg hx, if_neg (by rw [hp]; simp), if_pos hm]
theorem lone_puny {l : List Int} (hs : ∀ c ∈ l, scal c = true) (hx : l.take 4 ≠ xnI) (hp : plainL l = false) (hm : markL l = false) : lone l = some (xnB ++ penc (l.map Int.toNat)) := by
  unfold lone
  rw [if_pos (all_scal hs), if_neg hx, if_neg (by rw [hp]; simp), if_neg (by rw [hm]; simp)]
theorem lone_bad {l : List Int} (hs : ¬ ∀ c ∈ l, scal c = true) : lone l = none := by
  unfold lone
  rw [if_neg (by rw [List.all_eq_true]; exact hs)]

set_option maxHeartbeats 2000000 in
set_option maxRecDepth 100000 in
theorem one_good6 (A : Option Addr) (l : List Int) (cap : Nat) (w : World) (h : Runes w A l) (hl : l.length ≤ 220) (hs : ∀ c ∈ l, scal c = true) :
    Calls Tryz.prog 8 #[.slice A l.length cap] w (OnePost (lone l) w) := by
  have HS := Lib.hid hs
  have HR := Lib.hid h
  have HXI := Lib.hid (xn_iff hs)
  have hel := enc_length l
  clear hs
  obtain ⟨st, hst⟩ : ∃ st : ByteArray, st.data.toList = enc l := ⟨⟨(enc l).toArray⟩, by simp⟩
  have hsz : st.size = (enc l).length := by rw [← hst]; simp
  have HST := Lib.hid hst
  clear hst
  have hsb : st.size ≤ 900 := by omega
  have HSZ := Lib.hid hsz
  clear hsz hel
  obtain ⟨R, hR⟩ : ∃ R, lone l = R := ⟨_, rfl⟩
  have HL := Lib.hid hR
  rw [hR]
  clear hR
  go_enter Tryz.func8, Tryz.ntmps8
  go_wp2
  go_loopw [4] (fun i wr => ∃ k : Nat, k ≤ l.length ∧ i = .int .i64 k ∧ wr = w) (fun i _ => l.length - (intOf i).toNat)
  case atStart => exact ⟨0, Nat.zero_le _, rfl, rfl⟩
  case round =>
    obtain ⟨k, hk, rfl, hw⟩ := hrel
    have := hw.symm; subst this
    clear hw
    by_cases hlt : k < l.length
    · obtain ⟨b, off, rfl, _, hc⟩ := h k l[k] (List.getElem?_eq_getElem hlt)
      clear h
      have HC := scalar_any l[k] w
      rw [HS.out _ (List.getElem_mem hlt)] at HC
      go_wp2_with (go_at_call 22; refine HC.mono ?_; rintro e w' ⟨rfl, rfl⟩)
      go_roundw
      case rel => exact ⟨k + 1, by omega, by go_num, by first | rfl | trivial⟩
      case measure => simp [intOf]; omega
    · clear h
      have HE : Hid (∀ w1, Runes w1 A l → Calls Tryz.prog 23 #[.slice A l.length cap] w1 fun e w' => e = .returned (.string st) ∧ Below w1.heap.size w1 w') := by
        intro w1 h1
        refine (refEncode_any A l cap w1 h1 (by omega)).mono ?_
        rintro e w' ⟨t, ht, he, hb⟩
        exact ⟨by rw [he, bytes_eq6 (ht.trans HST.out.symm)], hb⟩
      by_cases hx : l.take 4 = xnI
      · have h4 : 4 ≤ st.size := by
          have := (HXI.out.1 hx)
          have e := congrArg List.length this
          have := HSZ.out
          simp [xnB] at e
          omega
        have he4 : st.extract 0 4 = ⟨#[120, 110, 45, 45]⟩ := bytes_eq6 (by rw [take_bytes, HST.out, HXI.out.1 hx]; rfl)
        have HSz4 : Hid ((st.extract 4 st.size).size = st.size - 4) := by show (st.extract 4 st.size).size = _; simp
        have HDt : Hid ((st.extract 4 st.size).data.toList = enc (l.drop 4)) := by
          show (st.extract 4 st.size).data.toList = _
          rw [extract_list, HST.out, xn_rest hx]
        have HLx := Lib.hid ((lone_xn HS.out hx).symm.trans HL.out)
        clear hx
        cases hpl : plainL l with
        | false =>
          rw [hpl] at HLx
          have HPl := Lib.hid hpl
          have HRn := Lib.hid (show none = R by have := HLx.out; simpa using this)
          clear hpl
          go_wp2_with (first
            | (go_at_call 23; refine (HE.out _ HR.out).mono ?_; rintro e w1 ⟨rfl, hb1⟩; have HB1 := Lib.hid hb1; clear hb1)
            | (go_at_call 24; refine (plain_any A l cap _ (HR.out.below HB1.out) (by omega)).mono ?_; rintro e w' ⟨rfl, rfl⟩; rw [HPl.out]))
          go_ret2
          rw [← HRn.out]
          exact ⟨rfl, HB1.out⟩
        | true =>
          rw [hpl] at HLx
          have HPl := Lib.hid hpl
          clear hpl
          cases hok : okDec (enc (l.drop 4)) with
          | false =>
            rw [hok] at HLx
            have HOk : Hid ((if okDec (st.extract 4 st.size).data.toList then (0 : Int) else 2) = 2) := by
              show (if okDec (st.extract 4 st.size).data.toList then (0 : Int) else 2) = 2
              rw [HDt.out, hok]; rfl
            have HRn := Lib.hid (show none = R by have := HLx.out; simpa using this)
            clear hok
            go_wp2_with (first
              | (go_at_call 23; refine (HE.out _ HR.out).mono ?_; rintro e w1 ⟨rfl, hb1⟩; have HB1 := Lib.hid hb1; clear hb1)
              | (go_at_call 24; refine (plain_any A l cap _ (HR.out.below HB1.out) (by omega)).mono ?_; rintro e w' ⟨rfl, rfl⟩; rw [HPl.out])
              | (go_at_call 25; refine (decoded_any _ _ (by rw [HSz4.out]; omega)).mono ?_; rintro e w2 ⟨rfl, hb2⟩; rw [HOk.out]; have HB2 := Lib.hid hb2; clear hb2))
            go_ret2
            rw [← HRn.out]
            exact ⟨rfl, HB1.out.trans (HB2.out.mono HB1.out.size)⟩
          | true =>
            rw [hok] at HLx
            have HOk : Hid ((if okDec (st.extract 4 st.size).data.toList then (0 : Int) else 2) = 0) := by
              show (if okDec (st.extract 4 st.size).data.toList then (0 : Int) else 2) = 0
              rw [HDt.out, hok]; rfl
            have HRn := Lib.hid (show some (enc l) = R by have := HLx.out; simpa using this)
            clear hok
            go_wp2_with (first
              | (go_at_call 23; refine (HE.out _ HR.out).mono ?_; rintro e w1 ⟨rfl, hb1⟩; have HB1 := Lib.hid hb1; clear hb1)
              | (go_at_call 24; refine (plain_any A l cap _ (HR.out.below HB1.out) (by omega)).mono ?_; rintro e w' ⟨rfl, rfl⟩; rw [HPl.out])
              | (go_at_call 25; refine (decoded_any _ _ (by rw [HSz4.out]; omega)).mono ?_; rintro e w2 ⟨rfl, hb2⟩; rw [HOk.out]; have HB2 := Lib.hid hb2; clear hb2))
            go_ret2
            rw [← HRn.out]
            refine ⟨?_, HB1.out.trans (HB2.out.mono HB1.out.size)⟩
            rw [← HST.out]; rfl
      · have hx4 : 4 ≤ st.size → st.extract 0 4 ≠ ⟨#[120, 110, 45, 45]⟩ := fun _ e => hx (HXI.out.2 (by rw [← HST.out, ← take_bytes, e]; rfl))
        have HX := Lib.hid hx
        clear hx
        obtain ⟨pt, hpt⟩ : ∃ pt : ByteArray, pt = ⟨(penc (l.map Int.toNat)).toArray⟩ := ⟨_, rfl⟩
        have hptb : pt.size ≤ 100000 := by
          have hsc6 : ∀ n ∈ l.map Int.toNat, sc n = true := fun n hn => by
            obtain ⟨c, hc, rfl⟩ := List.mem_map.1 hn
            have hcs := (scal_iff c).1 (HS.out c hc)
            rw [← sc_scal', show ((c.toNat : Nat) : Int) = c by omega]
            exact HS.out c hc
          have := penc_len6 hsc6 (by rw [List.length_map]; omega)
          rw [List.length_map] at this
          rw [hpt]
          show (penc (l.map Int.toNat)).toArray.size ≤ 100000
          simp
          omega
        have HCat := Lib.hid hpt
        clear hpt
        have HEn : Hid (∀ w1, Runes w1 A l → Calls Tryz.prog 27 #[.slice A l.length cap] w1 (TextTwo pt 0 w1)) := by
          intro w1 h1
          rw [HCat.out]
          have hz : ints (l.map Int.toNat) = l := zs_nats (fun c hc => ((scal_iff c).1 (HS.out c hc)).1)
          have := refEnc_good A (l.map Int.toNat) cap w1 (by rw [hz]; exact h1) (by rw [List.length_map]; omega) (fun n hn => by
            obtain ⟨c, hc, rfl⟩ := List.mem_map.1 hn
            have hcs := (scal_iff c).1 (HS.out c hc)
            rw [← sc_scal', show ((c.toNat : Nat) : Int) = c by omega]
            exact HS.out c hc)
          rw [List.length_map] at this
          exact this
        by_cases h4 : 4 ≤ st.size
        · have hne : ((st.extract 0 4).toList == [120, 110, 45, 45]) = false := by
            rw [beq_eq_false_iff_ne]
            intro e
            exact hx4 h4 (bytes_eq6 (by rw [← list_data, e]))
          clear hx4
          cases hpl : plainL l with
          | true =>
            have HRn := Lib.hid ((lone_plain HS.out HX.out hpl).symm.trans HL.out)
            have HPl := Lib.hid hpl
            clear hpl
            go_wp2_with (first
              | (go_at_call 23; refine (HE.out _ HR.out).mono ?_; rintro e w1 ⟨rfl, hb1⟩; have HB1 := Lib.hid hb1; clear hb1)
              | (go_at_call 24; refine (plain_any A l cap _ (HR.out.below HB1.out) (by omega)).mono ?_; rintro e w' ⟨rfl, rfl⟩; rw [HPl.out]))
            go_ret2
            rw [← HRn.out]
            refine ⟨?_, HB1.out⟩
            rw [← HST.out]; rfl
          | false =>
            have HPl := Lib.hid hpl
            cases hmk : markL l with
            | true =>
              have HRn := Lib.hid ((lone_mark HS.out HX.out hpl hmk).symm.trans HL.out)
              have HMk := Lib.hid hmk
              clear hpl hmk
              go_wp2_with (first
                | (go_at_call 23; refine (HE.out _ HR.out).mono ?_; rintro e w1 ⟨rfl, hb1⟩; have HB1 := Lib.hid hb1; clear hb1)
                | (go_at_call 24; refine (plain_any A l cap _ (HR.out.below HB1.out) (by omega)).mono ?_; rintro e w' ⟨rfl, rfl⟩; rw [HPl.out])
                | (go_at_call 26; refine (marked_any A l cap _ (HR.out.below HB1.out) (by omega)).mono ?_; rintro e w' ⟨rfl, rfl⟩; rw [HMk.out]))
              go_ret2
              rw [← HRn.out]
              exact ⟨rfl, HB1.out⟩
            | false =>
              have HRn := Lib.hid ((lone_puny HS.out HX.out hpl hmk).symm.trans HL.out)
              have HMk := Lib.hid hmk
              clear hpl hmk
              go_wp2_with (first
                | (go_at_call 23; refine (HE.out _ HR.out).mono ?_; rintro e w1 ⟨rfl, hb1⟩; have HB1 := Lib.hid hb1; clear hb1)
                | (go_at_call 24; refine (plain_any A l cap _ (HR.out.below HB1.out) (by omega)).mono ?_; rintro e w' ⟨rfl, rfl⟩; rw [HPl.out])
                | (go_at_call 26; refine (marked_any A l cap _ (HR.out.below HB1.out) (by omega)).mono ?_; rintro e w' ⟨rfl, rfl⟩; rw [HMk.out])
                | (go_at_call 27; refine (HEn.out _ (HR.out.below HB1.out)).mono ?_; rintro e w2 ⟨rfl, hb2⟩; have HB2 := Lib.hid hb2; clear hb2))
              go_ret2
              rw [← HRn.out]
              refine ⟨?_, HB1.out.trans (HB2.out.mono HB1.out.size)⟩
              have hcat := HCat.out
              first | rfl | (simp [xnB]; done) | (rw [hcat]; rfl)
        · clear hx4
          cases hpl : plainL l with
          | true =>
            have HRn := Lib.hid ((lone_plain HS.out HX.out hpl).symm.trans HL.out)
            have HPl := Lib.hid hpl
            clear hpl
            go_wp2_with (first
              | (go_at_call 23; refine (HE.out _ HR.out).mono ?_; rintro e w1 ⟨rfl, hb1⟩; have HB1 := Lib.hid hb1; clear hb1)
              | (go_at_call 24; refine (plain_any A l cap _ (HR.out.below HB1.out) (by omega)).mono ?_; rintro e w' ⟨rfl, rfl⟩; rw [HPl.out]))
            go_ret2
            rw [← HRn.out]
            refine ⟨?_, HB1.out⟩
            rw [← HST.out]; rfl
          | false =>
            have HPl := Lib.hid hpl
            cases hmk : markL l with
            | true =>
              have HRn := Lib.hid ((lone_mark HS.out HX.out hpl hmk).symm.trans HL.out)
              have HMk := Lib.hid hmk
              clear hpl hmk
              go_wp2_with (first
                | (go_at_call 23; refine (HE.out _ HR.out).mono ?_; rintro e w1 ⟨rfl, hb1⟩; have HB1 := Lib.hid hb1; clear hb1)
                | (go_at_call 24; refine (plain_any A l cap _ (HR.out.below HB1.out) (by omega)).mono ?_; rintro e w' ⟨rfl, rfl⟩; rw [HPl.out])
                | (go_at_call 26; refine (marked_any A l cap _ (HR.out.below HB1.out) (by omega)).mono ?_; rintro e w' ⟨rfl, rfl⟩; rw [HMk.out]))
              go_ret2
              rw [← HRn.out]
              exact ⟨rfl, HB1.out⟩
            | false =>
              have HRn := Lib.hid ((lone_puny HS.out HX.out hpl hmk).symm.trans HL.out)
              have HMk := Lib.hid hmk
              clear hpl hmk
              go_wp2_with (first
                | (go_at_call 23; refine (HE.out _ HR.out).mono ?_; rintro e w1 ⟨rfl, hb1⟩; have HB1 := Lib.hid hb1; clear hb1)
                | (go_at_call 24; refine (plain_any A l cap _ (HR.out.below HB1.out) (by omega)).mono ?_; rintro e w' ⟨rfl, rfl⟩; rw [HPl.out])
                | (go_at_call 26; refine (marked_any A l cap _ (HR.out.below HB1.out) (by omega)).mono ?_; rintro e w' ⟨rfl, rfl⟩; rw [HMk.out])
                | (go_at_call 27; refine (HEn.out _ (HR.out.below HB1.out)).mono ?_; rintro e w2 ⟨rfl, hb2⟩; have HB2 := Lib.hid hb2; clear hb2))
              go_ret2
              rw [← HRn.out]
              refine ⟨?_, HB1.out.trans (HB2.out.mono HB1.out.size)⟩
              have hcat := HCat.out
              first | rfl | (simp [xnB]; done) | (rw [hcat]; rfl)
end Go.Proofs.YtfaieldafoeaiaaGreatDoor

/-
  The small functions of package label, and what they call of the library, by their contracts.
-/
namespace Go.Proofs.YtfaieldafoeaiaaGreatDoor
open Go.RowKit

def far (c : Int) : Bool := decide (128 ≤ c)
def noS (c : Int) : Bool := !(scal c)
theorem far_any (c : Int) (w : World) :
    Calls Tryz.prog 40 #[.int .i32 c] w fun e w' => e = .returned (.bool (far c)) ∧ w = w' := by
  go_enter Tryz.func40, Tryz.ntmps40
  go_wp2
  go_ret
  exact ⟨rfl, rfl⟩
theorem validRune_any (c : Int) (w : World) :
    Calls Tryz.prog 42 #[.int .i32 c] w fun e w' => e = .returned (.bool (scal c)) ∧ w = w' := by
  go_enter Tryz.func42, Tryz.ntmps42
  go_wp2
  all_goals
    go_ret
    refine ⟨ret_bool ?_, rfl⟩
    rw [Bool.eq_iff_iff, scal_iff]
    simp
    try omega
theorem noS_any (c : Int) (w : World) :
    Calls Tryz.prog 17 #[.int .i32 c] w fun e w' => e = .returned (.bool (noS c)) ∧ w = w' := by
  have HC := validRune_any c w
  cases hs : scal c with
  | true =>
    rw [hs] at HC
    have HN : Hid (noS c = false) := by show (!(scal c)) = false; rw [hs]; rfl
    clear hs
    go_enter Tryz.func17, Tryz.ntmps17
    go_wp2_with (go_at_call 42; refine HC.mono ?_; rintro e w' ⟨rfl, rfl⟩)
    go_ret
    exact ⟨by rw [HN.out]; rfl, rfl⟩
  | false =>
    rw [hs] at HC
    have HN : Hid (noS c = true) := by show (!(scal c)) = true; rw [hs]; rfl
    clear hs
    go_enter Tryz.func17, Tryz.ntmps17
    go_wp2_with (go_at_call 42; refine HC.mono ?_; rintro e w' ⟨rfl, rfl⟩)
    go_ret
    exact ⟨by rw [HN.out]; rfl, rfl⟩

set_option maxHeartbeats 400000 in
theorem markFirst_any (A : Option Addr) (l : List Int) (cap : Nat) (w : World) (h : Runes w A l) (hl : l.length ≤ 100000) :
    Calls Tryz.prog 18 #[.slice A l.length cap] w fun e w' => e = .returned (.bool (markL l)) ∧ w = w' := by
  cases l with
  | nil =>
    clear h
    go_enter Tryz.func18, Tryz.ntmps18
    go_wp2
    go_ret
    exact ⟨rfl, rfl⟩
  | cons c l =>
    obtain ⟨b, off, rfl, _, hc⟩ := h 0 c rfl
    clear h
    rw [Nat.add_zero] at hc
    rw [List.length_cons] at hl ⊢
    have HM : Hid (markL (c :: l) = (decide (768 ≤ c) && decide (c ≤ 879))) := rfl
    by_cases h1 : 768 ≤ c <;> by_cases h2 : c ≤ 879
    all_goals
      go_enter Tryz.func18, Tryz.ntmps18
      go_wp2
      all_goals
        go_ret
        refine ⟨ret_bool ?_, rfl⟩
        rw [HM.out]
        simp [h1, h2]

theorem wrap6_any (cs : List ByteArray) (n : Int) (u : TypeId) (x : Value) (w : World) (hch : Chain w cs (some n) (.iface u x)) :
    Calls Tryz.prog 19 #[.iface u x] w fun e w' => ∃ cs u' x', e = .returned (.iface u' x') ∧ Chain w' cs (some n) (.iface u' x') ∧ Below w.heap.size w w' := by
  have HC := Lib.hid hch
  clear hch
  go_enter Tryz.func19, Tryz.ntmps19
  go_wp2_with (go_at_call 43; refine (wrap_held _ _ _ _).mono ?_; rintro e w' ⟨rfl, rfl⟩)
  go_ret
  exact ⟨_, _, _, rfl, HC.out.lay _, (Below.refl _ _).alloc (Nat.le_refl _) _⟩

/-! strings.CutPrefix at the prefix of Punycode. -/
set_option maxHeartbeats 400000 in
theorem hasX_yes (s : ByteArray) (w : World) (hl : s.size ≤ 100000) (h : s.data.toList.take 4 = xnB) :
    Calls Tryz.prog 71 #[.string s, .string ⟨#[120, 110, 45, 45]⟩] w fun e w' => e = .returned (.bool true) ∧ w = w' := by
  have h4 : 4 ≤ s.size := by
    have e := congrArg List.length h
    simp [xnB] at e
    omega
  have he4 : s.extract 0 4 = ⟨#[120, 110, 45, 45]⟩ := bytes_eq6 (by rw [take_bytes, h]; rfl)
  clear h
  go_enter Tryz.func71, Tryz.ntmps71
  go_wp2
  go_ret
  exact ⟨rfl, rfl⟩
set_option maxHeartbeats 400000 in
theorem hasX_no (s : ByteArray) (w : World) (hl : s.size ≤ 100000) (h : s.data.toList.take 4 ≠ xnB) :
    Calls Tryz.prog 71 #[.string s, .string ⟨#[120, 110, 45, 45]⟩] w fun e w' => e = .returned (.bool false) ∧ w = w' := by
  by_cases h4 : 4 ≤ s.size
  · have hne : ((s.extract 0 4).toList == [120, 110, 45, 45]) = false := by
      rw [beq_eq_false_iff_ne]
      intro e
      refine h ?_
      rw [← take_bytes, ← list_data, e]
      rfl
    clear h
    go_enter Tryz.func71, Tryz.ntmps71
    go_wp2
    go_ret
    exact ⟨rfl, rfl⟩
  · clear h
    go_enter Tryz.func71, Tryz.ntmps71
    go_wp2
    go_ret
    exact ⟨rfl, rfl⟩
set_option maxHeartbeats 400000 in
theorem cutX_yes (s : ByteArray) (w : World) (hl : s.size ≤ 100000) (h : s.data.toList.take 4 = xnB) :
    Calls Tryz.prog 14 #[.string s, .string ⟨#[120, 110, 45, 45]⟩] w fun e w' => e = .returned (.tuple #[.string (s.extract 4 s.size), .bool true]) ∧ w = w' := by
  have HC := Lib.hid (hasX_yes s w hl h)
  have h4 : 4 ≤ s.size := by
    have e := congrArg List.length h
    simp [xnB] at e
    omega
  clear h
  have HD : Hid (Calls Tryz.prog 39 #[.string s, .string ⟨#[120, 110, 45, 45]⟩] w fun e w' => e = .returned (.tuple #[.string (s.extract 4 s.size), .bool true]) ∧ w = w') := by
    show Calls _ _ _ _ _
    go_enter Tryz.func39, Tryz.ntmps39
    go_wp2_with (go_at_call 71; refine HC.out.mono ?_; rintro e w' ⟨rfl, rfl⟩)
    go_ret2
    exact ⟨rfl, rfl⟩
  go_enter Tryz.func14, Tryz.ntmps14
  go_wp2_with (go_at_call 39; refine HD.out.mono ?_; rintro e w' ⟨rfl, rfl⟩)
  go_ret2
  exact ⟨rfl, rfl⟩
set_option maxHeartbeats 400000 in
theorem cutX_no (s : ByteArray) (w : World) (hl : s.size ≤ 100000) (h : s.data.toList.take 4 ≠ xnB) :
    Calls Tryz.prog 14 #[.string s, .string ⟨#[120, 110, 45, 45]⟩] w fun e w' => e = .returned (.tuple #[.string s, .bool false]) ∧ w = w' := by
  have HC := Lib.hid (hasX_no s w hl h)
  clear h
  have HD : Hid (Calls Tryz.prog 39 #[.string s, .string ⟨#[120, 110, 45, 45]⟩] w fun e w' => e = .returned (.tuple #[.string s, .bool false]) ∧ w = w') := by
    show Calls _ _ _ _ _
    go_enter Tryz.func39, Tryz.ntmps39
    go_wp2_with (go_at_call 71; refine HC.out.mono ?_; rintro e w' ⟨rfl, rfl⟩)
    go_ret2
    exact ⟨rfl, rfl⟩
  go_enter Tryz.func14, Tryz.ntmps14
  go_wp2_with (go_at_call 39; refine HD.out.mono ?_; rintro e w' ⟨rfl, rfl⟩)
  go_ret2
  exact ⟨rfl, rfl⟩

set_option maxHeartbeats 400000 in
theorem equal_any (A B : Option Addr) (a b : List Int) (c d : Nat) (w : World) (ha : Runes w A a) (hb : Runes w B b) (hl : a.length ≤ 5000) :
    Calls Tryz.prog 45 #[.slice A a.length c, .slice B b.length d] w fun e w' => e = .returned (.bool (same a b)) ∧ ∃ n, w' = w.drewN n := by
  by_cases hlen : a.length = b.length
  · have hne : ((a.length : Int) != (b.length : Int)) = false := by rw [bne_eq_false_iff_eq]; omega
    have HL := Lib.hid hlen
    clear hlen
    go_enter Tryz.func45, Tryz.ntmps45
    go_wp2
    go_loopw [13] (fun i wr => ∃ k : Nat, k ≤ a.length ∧ i = .int .i64 k ∧ (∃ n, wr = w.drewN n) ∧ a.take k = b.take k) (fun i _ => a.length - (intOf i).toNat)
    case atStart => exact ⟨0, Nat.zero_le _, rfl, ⟨0, rfl⟩, rfl⟩
    case round =>
      obtain ⟨k, hk, rfl, ⟨n, rfl⟩, heq⟩ := hrel
      have HE := Lib.hid heq
      clear heq
      by_cases hlt : k < a.length
      · have hlt' : k < b.length := by have := HL.out; omega
        obtain ⟨ba, offa, rfl, _, hca⟩ := ha k a[k] (List.getElem?_eq_getElem hlt)
        obtain ⟨bb, offb, rfl, _, hcb⟩ := hb k b[k] (List.getElem?_eq_getElem hlt')
        clear ha hb
        by_cases hab : a[k] = b[k]
        · have ht : (a[k] != b[k]) = false := by rw [bne_eq_false_iff_eq]; exact hab
          have HF : Hid (a.take (k + 1) = b.take (k + 1)) := by
            show a.take (k + 1) = b.take (k + 1)
            rw [List.take_succ_eq_append_getElem hlt, List.take_succ_eq_append_getElem hlt', hab, HE.out]
          clear hab
          go_wp2_with fail
          go_quiet (fail)
          go_wp2
          go_roundw
          case rel => exact ⟨k + 1, by omega, by go_num, ⟨_, rfl⟩, HF.out⟩
          case measure => simp [intOf]; omega
        · have ht : (a[k] != b[k]) = true := by rw [bne_iff_ne]; exact hab
          have HF := Lib.hid (ne_of_at hlt hlt' hab)
          clear hab
          go_wp2_with fail
          go_quiet (fail)
          go_wp2
          go_ret
          exact ⟨by rw [HF.out]; rfl, _, World.drewN_drewN _ _ _⟩
      · have e : k = a.length := by omega
        have HF : Hid (same a b = true) := by
          show same a b = true
          simp only [same, decide_eq_true_eq]
          have h1 := HE.out
          rw [List.take_of_length_le (by omega), List.take_of_length_le (by have := HL.out; omega)] at h1
          exact h1
        clear e ha hb
        go_wp2
        go_ret
        exact ⟨by rw [HF.out]; rfl, _, rfl⟩
  · have hne : ((a.length : Int) != (b.length : Int)) = true := by rw [bne_iff_ne]; omega
    have HF := Lib.hid (ne_of_len hlen)
    clear hlen ha hb
    go_enter Tryz.func45, Tryz.ntmps45
    go_wp2
    go_ret
    exact ⟨by rw [HF.out]; rfl, 0, rfl⟩

/-- The place of the first dot; -1. -/
def dotAt (l : List Int) : Int := if l.findIdx (fun c => c == 46) < l.length then ((l.findIdx (fun c => c == 46) : Nat) : Int) else -1
theorem dotAt_here {l : List Int} {k : Nat} (h : k < l.length) (hb : l[k] = 46) (hp : ∀ c ∈ l.take k, c ≠ 46) : dotAt l = k := by
  have : l.findIdx (fun c => c == 46) = k := by
    rw [List.findIdx_eq h]
    refine ⟨by simp [hb], fun j hj => ?_⟩
    have := hp l[j] (by rw [List.mem_take_iff_getElem]; exact ⟨j, by omega, rfl⟩)
    simpa using this
  unfold dotAt
  rw [this, if_pos h]
theorem dotAt_none {l : List Int} (hp : ∀ c ∈ l, c ≠ 46) : dotAt l = -1 := by
  have : l.findIdx (fun c => c == 46) = l.length := by
    rw [List.findIdx_eq_length]
    intro c hc
    simpa using hp c hc
  unfold dotAt
  rw [this, if_neg (by omega)]

set_option maxHeartbeats 400000 in
theorem indexDot_any (A : Option Addr) (l : List Int) (cap : Nat) (w : World) (h : Runes w A l) (hl : l.length ≤ 100000) :
    Calls Tryz.prog 67 #[.slice A l.length cap, .int .i32 46] w fun e w' => e = .returned (.int .i64 (dotAt l)) ∧ w = w' := by
  go_enter Tryz.func67, Tryz.ntmps67
  go_wp2
  go_loopw [8] (fun i wr => ∃ k : Nat, k ≤ l.length ∧ i = .int .i64 k ∧ wr = w ∧ ∀ c ∈ l.take k, c ≠ 46) (fun i _ => l.length - (intOf i).toNat)
  case atStart => exact ⟨0, Nat.zero_le _, rfl, rfl, by simp⟩
  case round =>
    obtain ⟨k, hk, rfl, hw, hp⟩ := hrel
    have := hw.symm; subst this
    have HP := Lib.hid hp
    clear hp hw
    by_cases hlt : k < l.length
    · obtain ⟨b, off, rfl, _, hc⟩ := h k l[k] (List.getElem?_eq_getElem hlt)
      clear h
      by_cases hs : l[k] = 46
      · have HN := Lib.hid (dotAt_here hlt hs HP.out)
        rw [hs] at hc
        clear hs
        go_wp2
        go_ret
        exact ⟨by rw [HN.out]; rfl, rfl⟩
      · have HN := Lib.hid (take_snoc (p := fun c => c ≠ 46) hlt HP.out hs)
        have he : (46 == l[k]) = false := by rw [beq_eq_false_iff_ne]; exact fun e => hs e.symm
        clear hs
        go_wp2
        go_roundw
        case rel => exact ⟨k + 1, by omega, by go_num, by first | rfl | trivial, HN.out⟩
        case measure => simp [intOf]; omega
    · have HN : Hid (dotAt l = -1) := dotAt_none (by have := HP.out; rw [List.take_of_length_le (by omega)] at this; exact this)
      clear h
      go_wp2
      go_ret
      exact ⟨by rw [HN.out]; rfl, rfl⟩
end Go.Proofs.YtfaieldafoeaiaaGreatDoor

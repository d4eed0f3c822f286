/-
  Encode, of scalars.
-/
import Derived.Test.YtmnpefpglpabmaaQEnc
namespace Go.Proofs.Ytmnpefpglpabmaa
open Go.RowKit

theorem take_basic {ln : List Nat} {k : Nat} (h : k < ln.length) (hs : ln[k] < 128) : (basicOf (ln.take (k + 1))).map UInt8.ofNat = (basicOf (ln.take k)).map UInt8.ofNat ++ [UInt8.ofNat ln[k]] := by
  rw [List.take_succ_eq_append_getElem h, basicOf, basicOf, List.filter_append]
  simp [hs]
theorem take_basic' {ln : List Nat} {k : Nat} (h : k < ln.length) (hs : ¬ ln[k] < 128) : basicOf (ln.take (k + 1)) = basicOf (ln.take k) := by
  rw [List.take_succ_eq_append_getElem h, basicOf, basicOf, List.filter_append]
  simp [hs]
theorem beq0_cast (a : Nat) : ((a : Int) == 0) = (a == 0) := by
  by_cases h : a = 0
  · subst h; rfl
  · rw [beq_eq_false_iff_ne.2 h, beq_eq_false_iff_ne.2 (by omega)]
theorem basic_le (l : List Nat) : (basicOf l).length ≤ l.length := List.length_filter_le _ _

/-- The builder, as one of the call's own. -/
theorem is_from {w0 : World} {A : Option Addr} {ln : List Nat} {cap bl bb bt : Nat} {o g : Option Nat} {txt t2 : List UInt8} {M : Nat → Bool} {w : World} (h : Core w0 A ln cap bl bb bt o g txt M w) (e : txt = t2) : Lib.IsBuilder 43 5 w0.heap.size bb (Lib.byteCells t2) w := by
  subst e
  have hb := h.base.2.1
  have ho := h.osep
  obtain ⟨p, v, hp, hbk, hown, rfl, hne⟩ := h.bld
  have hown' : w.ownsRow w0.heap.size 5 1 v txt.length (Lib.byteCells txt) := by
    refine ⟨hown.1, ?_⟩
    rcases hown.2 with h2 | ⟨gk, cap, cur, rfl, _, r⟩
    · exact .inl h2
    · exact .inr ⟨gk, cap, cur, rfl, (ho gk rfl).1, r⟩
  rcases hp with rfl | rfl
  · exact .inl ⟨hb, v, hbk, by rw [byteCells_len]; exact hown', hne⟩
  · exact .inr ⟨hb, v, hbk, by rw [byteCells_len]; exact hown', hne⟩

set_option maxHeartbeats 1000000 in
set_option maxRecDepth 100000 in
theorem enc_ok (A : Option Addr) (ln : List Nat) (cap : Nat) (w : World) (h : Runes w A (ints ln)) (hs : ∀ c ∈ ln, sc c = true) (hl : ln.length ≤ 100) :
    Calls Try.prog 7 #[.slice A ln.length cap] w (EncOk ln w) := by
  have HS := Lib.hid hs
  have HR := Lib.hid h
  have HC := qcontains_any A (ints ln) cap (w.alloc (.cells #[.slice A ln.length cap] 22)) (h.below ((Below.refl _ _).alloc (Nat.le_refl _) _)) (fun c hc => by
    have := (scal_iff c).1 (ints_scal hs c hc); omega) (by rw [ints_length]; omega)
  rw [anyBad_no (ints_scal hs), ints_length] at HC
  obtain ⟨w1, hw1, htal, hkt, hsz⟩ := tally_made ((w.alloc (.cells #[.slice A ln.length cap] 22)).alloc (.cells #[.pointer none, .slice none 0 0] 43)) ln.length (by omega)
  rw [show ((w.alloc (.cells #[.slice A ln.length cap] 22)).alloc (.cells #[.pointer none, .slice none 0 0] 43)).heap.size = w.heap.size + 2 by simp] at htal hw1 hsz
  have HCore : Hid (Core w A ln cap w.heap.size (w.heap.size + 1) (w.heap.size + 2) none none [] (bas ln 0) w1) := by
    rw [bas_none]
    have hb2 : ((w.alloc (.cells #[.slice A ln.length cap] 22)).alloc (.cells #[.pointer none, .slice none 0 0] 43)).heap[w.heap.size + 1]? = some (.cells #[.pointer none, .slice none 0 0] 43 (0, 0)) := by
      have := heap_alloc_new (w.alloc (.cells #[.slice A ln.length cap] 22)) (.cells #[.pointer none, .slice none 0 0] 43)
      rwa [show (w.alloc (.cells #[.slice A ln.length cap] 22)).heap.size = w.heap.size + 1 by simp] at this
    refine ⟨h, (((Below.refl _ _).alloc (Nat.le_refl _) _).alloc (by simp) _).trans (hkt.below (by simp; omega) (by simp)), ?_, ⟨.pointer none, .slice none 0 0, .inl rfl, ?_, World.ownsRow_nil _ _ _ _, rfl, by simp⟩, htal, ⟨by omega, by omega, by omega, by omega, by omega, by omega, by omega⟩, by simp, by simp⟩
    · rw [hkt.cell (p := ⟨w.heap.size, 0, none⟩) (by simp; omega) (by simp)]
      rw [World.cell?_alloc_past _ _ _ (by simp), World.cell?_alloc_at _ _ _ _ (by simp)]; rfl
    · exact (hkt.block _ (by simp) (by simp)).trans hb2
  clear hs h htal hkt
  have hsz2 := HCore.out.below.size
  have c31 := HCore.out.box
  go_enter Try.func7, Try.ntmps7
  go_wp2_with (first
    | (go_at_call 13; refine HC.mono ?_; rintro e w' ⟨rfl, rfl⟩))
  clear HC hw1 hsz hsz2 c31
  go_loopw [6, 33] (fun v k wr => ∃ (kk : Nat) (o g : Option Nat), k = .int .i64 kk ∧ kk ≤ ln.length ∧ Core w A ln cap w.heap.size (w.heap.size + 1) (w.heap.size + 2) o g ((basicOf (ln.take kk)).map UInt8.ofNat) (bas ln kk) wr ∧ RowO v (oth ln kk) g wr) (fun _ k _ => ln.length - (intOf k).toNat)
  case atStart => exact ⟨0, none, none, rfl, Nat.zero_le _, HCore.out, ⟨World.ownsRow_nil _ _ _ _, rfl⟩⟩
  case round =>
    obtain ⟨k, o, g, rfl, hk, hcore, hrow⟩ := hrel
    clear HCore
    have HK := Lib.hid hcore
    have HW := Lib.hid hrow
    clear hrow
    by_cases hlt : k < ln.length
    · obtain ⟨b, off, rfl, hck⟩ := hcore.rune hlt
      have hsc := sc_lt (HS.out _ (List.getElem_mem hlt))
      clear hcore
      obtain ⟨c, hc⟩ : ∃ c, ln[k] = c := ⟨_, rfl⟩
      rw [hc] at hck hsc
      by_cases hc8 : c < 128
      · have HN : Hid ((basicOf (ln.take (k + 1))).map UInt8.ofNat = (basicOf (ln.take k)).map UInt8.ofNat ++ [UInt8.ofNat c] ∧ mark (bas ln k) k = bas ln (k + 1) ∧ oth ln (k + 1) = oth ln k) := by
          subst hc
          exact ⟨take_basic hlt hc8, bas_small hlt hc8, oth_small hlt hc8⟩
        clear hc
        have hbl : ((basicOf (ln.take k)).map UInt8.ofNat).length + 1 ≤ 1000000 := by
          have := basic_le (ln.take k)
          rw [List.length_map]
          rw [List.length_take] at this
          omega
        have HB := Lib.hid hbl
        clear hbl
        go_wp2_with (first
          | (go_at_call 17
             refine (bldo_byte (w.heap.size + 1) o _ (UInt8.ofNat c) _ _ HK.out.bld (by rw [ofNat_toNat c (by omega)]) HB.out).mono ?_
             rintro e w2 ⟨rfl, o', hb1, hb2, hb3⟩
             have HK2 := Lib.hid (HK.out.put hb1 hb2 hb3)
             have HW2 := Lib.hid (HW.out.kept hb3 (fun q e hq => by
               obtain ⟨s1, s2, s3, s4, s5, s6⟩ := HK.out.gsep q e
               rcases List.mem_cons.1 hq with e2 | hq
               · exact s4 e2
               · exact s6 (by simpa using hq)))
             clear hb1 hb2 hb3)
          | (go_at_call 18
             refine (qmark_any (w.heap.size + 2) ln.length k (bas ln k) _ (by omega) hlt (bas_here ln k) HK2.out.tal).mono ?_
             rintro e w3 ⟨rfl, ht1, ht2⟩
             have HK3 := Lib.hid (HK2.out.mark ht1 ht2)
             have HW3 := Lib.hid (HW2.out.kept ht2 (fun q e hq => (HK2.out.gsep q e).2.2.2.2.1 (by simpa using hq)))
             clear ht1 ht2))
        go_roundw
        case rel => exact ⟨k + 1, o', g, by go_num, hlt, by rw [HN.out.1, ← HN.out.2.1]; exact HK3.out, by rw [HN.out.2.2]; exact HW3.out⟩
        case measure => simp [intOf]; omega
      · have HN : Hid (basicOf (ln.take (k + 1)) = basicOf (ln.take k) ∧ bas ln k = bas ln (k + 1) ∧ oth ln (k + 1) = oth ln k ++ [k]) := by
          subst hc
          exact ⟨take_basic' hlt hc8, bas_great hlt hc8, oth_great hlt hc8⟩
        clear hc
        have hol := oth_le ln k
        go_wp2_with (at_builtin
                     refine oth_append rfl (.tmp 40) (.tmp 42) rfl _ (oth ln k) g k rfl rfl HW.out (by omega) ?_
                     intro v' w2 g' hr2 hk2 hg2
                     have HK2 := Lib.hid (HK.out.row hk2 hg2)
                     have HW2 := Lib.hid hr2
                     clear hr2 hk2 hg2)
        go_roundw
        case rel => exact ⟨k + 1, o, g', by go_num, hlt, by rw [HN.out.1, ← HN.out.2.1]; exact HK2.out, by rw [HN.out.2.2]; exact HW2.out⟩
        case measure => simp [intOf]; omega
    · obtain rfl : k = ln.length := by omega
      clear hcore
      rw [List.take_length] at HK
      have hbo := bas_oth ln ln.length (Nat.le_refl _)
      rw [List.take_length] at hbo
      have hlen := HK.out.bld.is
      have HLen := qlen_any 0 (w.heap.size + 1) _ wr hlen
      clear hlen
      rw [List.length_map] at HLen
      obtain ⟨N, hN⟩ : ∃ N, (oth ln ln.length).length = N := ⟨_, rfl⟩
      rw [hN] at hbo
      have hsub : (ln.length : Int) - (N : Int) = ((basicOf ln).length : Int) := by omega
      have hol : N ≤ 100 := by omega
      have HN := Lib.hid hN
      clear hN hbo
      have hbx := HK.out.box
      by_cases hB : (basicOf ln).length = 0
      · have HK2 : Hid (Core w A ln cap w.heap.size (w.heap.size + 1) (w.heap.size + 2) o g ((basicOf ln).map UInt8.ofNat ++ (if (basicOf ln).length = 0 then [] else [45])) (bas ln ln.length) wr) := by
          show (Core w A ln cap w.heap.size (w.heap.size + 1) (w.heap.size + 2) o g ((basicOf ln).map UInt8.ofNat ++ (if (basicOf ln).length = 0 then [] else [45])) (bas ln ln.length) wr)
          rw [if_pos hB, List.append_nil]; exact HK.out
        have hB0 : ¬ (0 : Int) < ((basicOf ln).length : Int) := by omega
        clear hB HK
        have HW2 := Lib.hid HW.out
        obtain ⟨A6, c6, rfl, hA6, HSort⟩ := enc_sort HK2.out HW2.out hl
        have HA6 := Lib.hid hA6
        clear hA6
        rw [HN.out] at HSort ⊢
        go_wp2_with (first
          | (go_at_call 19; refine HLen.mono ?_; rintro e w' ⟨rfl, rfl⟩)
          | (go_at_call 20; refine HSort.mono ?_; rintro e w5 ⟨rfl, D, hD1, hD2, hD3⟩; have HL := Lib.hid hD3; have HDs := Lib.hid (And.intro hD1 hD2); have hbx5 := hD3.core.box; clear hD1 hD2 hD3))
        have hN2 := HDs.out.1
        subst hN2
        clear HSort HLen hbx
        go_loopw [9, 10, 11, 12, 64] (fun v9 v10 v11 v12 k wr => ∃ (t n i bias : Nat) (M : Nat → Bool) (T : List UInt8) (o : Option Nat), v9 = .int .i64 (((basicOf ln).length + t : Nat) : Int) ∧ v10 = .int .i64 n ∧ v11 = .int .i64 i ∧ v12 = .int .i64 bias ∧ k = .int .i64 t ∧ t ≤ D.length ∧ Loop2 w A ln cap w.heap.size (w.heap.size + 1) (w.heap.size + 2) o g D t n i bias M T wr) (fun _ _ _ _ k _ => D.length - (intOf k).toNat)
        case atStart => exact ⟨0, 128, 0, 72, _, [], _, by first | rfl | go_num, rfl, rfl, rfl, rfl, Nat.zero_le _, HL.out⟩
        case round =>
          obtain ⟨t, n, i, bias, M, T, o, rfl, rfl, rfl, rfl, rfl, ht, hloop⟩ := hrel
          clear HL hbx5 HK2 HW
          have HL := Lib.hid hloop
          obtain ⟨hn0, hi0, hbi0, hT0⟩ := hloop.bounds
          have hcn := hloop.count
          have hclen := cnt_le M ln.length
          have hBt : (basicOf ln).length + t ≤ 100 := by omega
          clear hclen
          have hpl : ((basicOf ln).map UInt8.ofNat ++ (if (basicOf ln).length = 0 then [] else [45]) ++ T).length ≤ 900000 := by
            rw [List.length_append, List.length_append, List.length_map]
            split <;> simp <;> omega
          have HPl := Lib.hid hpl
          clear hpl
          by_cases hlt : t < D.length
          · obtain ⟨p, hp⟩ : ∃ p, D[t] = p := ⟨_, rfl⟩
            obtain ⟨gk, hgk, hcp⟩ := hloop.cell t p (by rw [List.getElem?_eq_getElem hlt, hp])
            obtain rfl := HA6.out gk hgk
            have hdrop : D.drop t = p :: D.drop (t + 1) := by rw [List.drop_eq_getElem_cons hlt, hp]
            have hleft := hloop.left
            rw [hdrop] at hleft
            obtain ⟨q1, q2, q3, q4⟩ := hleft p (List.mem_cons_self ..)
            obtain ⟨b, off, rfl, hrune⟩ := hloop.core.rune q1
            have hbox := hloop.core.box
            have hcm : cnt M p ≤ cnt M ln.length := cnt_mono M (by omega)
            rw [hcn] at q4 hcm
            rw [getD_at q1] at q3 q4
            have hsc := sc_lt (HS.out _ (List.getElem_mem q1))
            obtain ⟨c, hc⟩ : ∃ c, ln[p] = c := ⟨_, rfl⟩
            rw [hc] at hrune q3 q4 hsc
            obtain ⟨h1, hh1⟩ : ∃ h1, (basicOf ln).length + t = h1 := ⟨_, rfl⟩
            rw [hh1] at hcm q4 hBt hcn
            obtain ⟨a, haa⟩ : ∃ a, cnt M p = a := ⟨_, rfl⟩
            rw [haa] at hcm q4
            obtain ⟨P, hP⟩ : ∃ P, (c - n) * (h1 + 1) = P := ⟨_, rfl⟩
            rw [hP] at q4
            have hPb : P ≤ 1114112 * 101 := by
              rw [← hP]
              exact Nat.mul_le_mul (by omega) (by omega)
            have hPi : ((c : Int) - (n : Int)) * ((h1 : Int) + 1) = (P : Int) := by
              rw [← hP, Int.natCast_mul]
              congr 1
              omega
            have hAh : ∀ m, Calls Try.prog 23 #[.slice (some ⟨w.heap.size + 2, 0, none⟩) (ln.length + 1) (ln.length + 1), .int .i64 p] (wr.drewN m) fun e w' => e = .returned (.int .i64 a) ∧ w' = wr.drewN m := by
              intro m
              have := qahead_any (w.heap.size + 2) ln.length p M (wr.drewN m) (by omega) (by omega) (hloop.core.drewN m).tal
              rw [haa] at this
              exact this.mono fun _ _ ⟨he, hw⟩ => ⟨he, hw.symm⟩
            have HQ : Hid (D[t] = p ∧ M p = false ∧ cnt M ln.length = h1 ∧ ln.getD p 0 = c ∧ cnt M p = a ∧ (c - n) * (h1 + 1) = P ∧ (basicOf ln).length + t = h1) := ⟨hp, q2, hcn, by rw [getD_at q1, hc], haa, hP, hh1⟩
            obtain ⟨d, hd⟩ : ∃ d, d = P + a - i := ⟨_, rfl⟩
            have hdi : (P : Int) + (a : Int) - (i : Int) = (d : Int) := by omega
            have hdb : d < 1000000000 := by omega
            have HD9 : Hid (d = P + a - i) := hd
            have htb : ((t : Int) == 0) = (t == 0) := beq0_cast t
            have hhh : (((basicOf ln).length : Nat) : Int) + (t : Int) = (h1 : Int) := by omega
            clear hdrop hleft hcn hc haa hP hd hp hloop q2 hh1 hgk
            have HAh := Lib.hid hAh
            clear hAh
            obtain ⟨tb, htb2⟩ : ∃ tb, (t == 0) = tb := ⟨_, rfl⟩
            have HTB := Lib.hid htb2
            rw [htb2] at htb
            clear htb2
            go_wp2_with fail
            go_quiet ((go_at_call 23; exact Calls.quiet_of_same (HAh.out _)))
            have HL2 : Hid (Core w (some ⟨b, off, none⟩) ln cap w.heap.size (w.heap.size + 1) (w.heap.size + 2) o g _ M (wr.drewN nq)) := HL.out.core.drewN nq
            clear hcp hrune hbox HAh
            go_wp2_with (first
              | (go_at_call 24
                 refine (qtell_any (w.heap.size + 1) o _ d bias _ _ _ rfl rfl hdb (by omega) HL2.out.bld HPl.out).mono ?_
                 rintro e w6 ⟨rfl, o6, hb1, hb2, hb3⟩
                 have HT := Lib.hid (And.intro hb1 (And.intro hb2 hb3))
                 clear hb1 hb2 hb3)
              | (go_at_call 25
                 refine (qadapt_any d (h1 + 1) tb _ _ _ rfl (by omega) (by omega) (by omega) (by omega)).mono ?_
                 rintro e w' ⟨rfl, rfl⟩)
              | (go_at_call 18
                 refine (qmark_any (w.heap.size + 2) ln.length p M _ (by omega) q1 HQ.out.2.1 (HL2.out.put HT.out.1 HT.out.2.1 HT.out.2.2).tal).mono ?_
                 rintro e w7 ⟨rfl, ht1, ht2⟩
                 have HM := Lib.hid (And.intro ht1 ht2)
                 clear ht1 ht2))
            go_roundw
            case rel =>
              obtain ⟨e1, e2, e3, e4, e5, e6, e7⟩ := HQ.out
              have hl2 : Loop2 w (some ⟨b, off, none⟩) ln cap w.heap.size (w.heap.size + 1) (w.heap.size + 2) o g D t n i bias M T (wr.drewN nq) := ⟨HL2.out, HL.out.cell, HL.out.run, HL.out.left, HL.out.all, HL.out.count, HL.out.bounds⟩
              have hnx := hl2.next HDs.out.2 hlt e1 hl HS.out (by rw [e3, e4, e5, e6]; exact HD9.out) hdb HT.out.1 HT.out.2.1 HT.out.2.2 HM.out.1 HM.out.2
              rw [e4, e5, HTB.out, e7] at hnx
              exact ⟨t + 1, c, a + 1, _, _, _, _, by go_num, by go_num, by go_num, rfl, by go_num, hlt, hnx⟩
            case measure => simp [intOf]; omega
          · obtain rfl : t = D.length := by omega
            have HF : Hid ((basicOf ln).map UInt8.ofNat ++ (if (basicOf ln).length = 0 then [] else [45]) ++ T = penc ln) := by
              refine HL.out.run.done HS.out (fun q hq => ?_)
              rcases HL.out.all q hq with e | e
              · exact e
              · rw [List.drop_length] at e; cases e
            have HBl := HL.out.core.bld
            rw [HF.out] at HBl
            have HBl := Lib.hid HBl.is
            have HBw := Lib.hid HL.out.core.below
            clear hloop hcn
            go_wp2_with (go_at_call 26; refine (bld_string w.heap.size (w.heap.size + 1) (penc ln) _ (is_from HL.out.core HF.out) HBw.out.size).mono ?_; rintro e w8 ⟨rfl, hb8⟩; have HB8 := Lib.hid hb8; clear hb8)
            go_ret2
            exact ⟨rfl, HBw.out.trans HB8.out⟩
      · have hB0 : (0 : Int) < ((basicOf ln).length : Int) := by omega
        obtain ⟨A60, c60, hv60⟩ : ∃ A6 c6, u6 = .slice A6 N c6 := by
          obtain ⟨A6, c6, hv, _⟩ : ∃ A6 c6, u6 = .slice A6 (oth ln ln.length).length c6 ∧ True := by
            rcases HW.out.shape with ⟨e, e2⟩ | ⟨gk, c6, e, _⟩
            · exact ⟨none, 0, by rw [e, e2]; rfl, trivial⟩
            · exact ⟨_, c6, e, trivial⟩
          exact ⟨A6, c6, by rw [hv, HN.out]⟩
        subst hv60
        have hbl : ((basicOf ln).map UInt8.ofNat).length + 1 ≤ 1000000 := by
          have := basic_le ln
          rw [List.length_map]
          omega
        have HBL := Lib.hid hbl
        clear hbl
        have HB := Lib.hid hB
        clear hB
        go_wp2_with (first
          | (go_at_call 19; refine HLen.mono ?_; rintro e w' ⟨rfl, rfl⟩)
          | (go_at_call 17
             refine (bldo_byte (w.heap.size + 1) o _ 45 _ _ HK.out.bld rfl HBL.out).mono ?_
             rintro e w2 ⟨rfl, o', hb1, hb2, hb3⟩
             have HK2 : Hid (Core w A ln cap w.heap.size (w.heap.size + 1) (w.heap.size + 2) o' g ((basicOf ln).map UInt8.ofNat ++ (if (basicOf ln).length = 0 then [] else [45])) (bas ln ln.length) w2) := by
               show (Core w A ln cap w.heap.size (w.heap.size + 1) (w.heap.size + 2) o' g ((basicOf ln).map UInt8.ofNat ++ (if (basicOf ln).length = 0 then [] else [45])) (bas ln ln.length) w2)
               rw [if_neg HB.out]
               exact HK.out.put hb1 hb2 hb3
             have HW2 := Lib.hid (HW.out.kept hb3 HK.out.g_bld)
             obtain ⟨A6, c6, hv6, hA6, HSort⟩ := enc_sort HK2.out HW2.out hl
             rw [HN.out] at HSort hv6
             cases hv6
             have HA6 := Lib.hid hA6
             clear hA6 hb1 hb2 hb3)
          | (go_at_call 20; refine HSort.mono ?_; rintro e w5 ⟨rfl, D, hD1, hD2, hD3⟩; have HL := Lib.hid hD3; have HDs := Lib.hid (And.intro hD1 hD2); have hbx5 := hD3.core.box; clear hD1 hD2 hD3))
        have hN2 := HDs.out.1
        subst hN2
        clear HSort HLen hbx
        go_loopw [9, 10, 11, 12, 64] (fun v9 v10 v11 v12 k wr => ∃ (t n i bias : Nat) (M : Nat → Bool) (T : List UInt8) (o : Option Nat), v9 = .int .i64 (((basicOf ln).length + t : Nat) : Int) ∧ v10 = .int .i64 n ∧ v11 = .int .i64 i ∧ v12 = .int .i64 bias ∧ k = .int .i64 t ∧ t ≤ D.length ∧ Loop2 w A ln cap w.heap.size (w.heap.size + 1) (w.heap.size + 2) o g D t n i bias M T wr) (fun _ _ _ _ k _ => D.length - (intOf k).toNat)
        case atStart => exact ⟨0, 128, 0, 72, _, [], _, by first | rfl | go_num, rfl, rfl, rfl, rfl, Nat.zero_le _, HL.out⟩
        case round =>
          obtain ⟨t, n, i, bias, M, T, o, rfl, rfl, rfl, rfl, rfl, ht, hloop⟩ := hrel
          clear HL hbx5 HK2 HW
          have HL := Lib.hid hloop
          obtain ⟨hn0, hi0, hbi0, hT0⟩ := hloop.bounds
          have hcn := hloop.count
          have hclen := cnt_le M ln.length
          have hBt : (basicOf ln).length + t ≤ 100 := by omega
          clear hclen
          have hpl : ((basicOf ln).map UInt8.ofNat ++ (if (basicOf ln).length = 0 then [] else [45]) ++ T).length ≤ 900000 := by
            rw [List.length_append, List.length_append, List.length_map]
            split <;> simp <;> omega
          have HPl := Lib.hid hpl
          clear hpl
          by_cases hlt : t < D.length
          · obtain ⟨p, hp⟩ : ∃ p, D[t] = p := ⟨_, rfl⟩
            obtain ⟨gk, hgk, hcp⟩ := hloop.cell t p (by rw [List.getElem?_eq_getElem hlt, hp])
            obtain rfl := HA6.out gk hgk
            have hdrop : D.drop t = p :: D.drop (t + 1) := by rw [List.drop_eq_getElem_cons hlt, hp]
            have hleft := hloop.left
            rw [hdrop] at hleft
            obtain ⟨q1, q2, q3, q4⟩ := hleft p (List.mem_cons_self ..)
            obtain ⟨b, off, rfl, hrune⟩ := hloop.core.rune q1
            have hbox := hloop.core.box
            have hcm : cnt M p ≤ cnt M ln.length := cnt_mono M (by omega)
            rw [hcn] at q4 hcm
            rw [getD_at q1] at q3 q4
            have hsc := sc_lt (HS.out _ (List.getElem_mem q1))
            obtain ⟨c, hc⟩ : ∃ c, ln[p] = c := ⟨_, rfl⟩
            rw [hc] at hrune q3 q4 hsc
            obtain ⟨h1, hh1⟩ : ∃ h1, (basicOf ln).length + t = h1 := ⟨_, rfl⟩
            rw [hh1] at hcm q4 hBt hcn
            obtain ⟨a, haa⟩ : ∃ a, cnt M p = a := ⟨_, rfl⟩
            rw [haa] at hcm q4
            obtain ⟨P, hP⟩ : ∃ P, (c - n) * (h1 + 1) = P := ⟨_, rfl⟩
            rw [hP] at q4
            have hPb : P ≤ 1114112 * 101 := by
              rw [← hP]
              exact Nat.mul_le_mul (by omega) (by omega)
            have hPi : ((c : Int) - (n : Int)) * ((h1 : Int) + 1) = (P : Int) := by
              rw [← hP, Int.natCast_mul]
              congr 1
              omega
            have hAh : ∀ m, Calls Try.prog 23 #[.slice (some ⟨w.heap.size + 2, 0, none⟩) (ln.length + 1) (ln.length + 1), .int .i64 p] (wr.drewN m) fun e w' => e = .returned (.int .i64 a) ∧ w' = wr.drewN m := by
              intro m
              have := qahead_any (w.heap.size + 2) ln.length p M (wr.drewN m) (by omega) (by omega) (hloop.core.drewN m).tal
              rw [haa] at this
              exact this.mono fun _ _ ⟨he, hw⟩ => ⟨he, hw.symm⟩
            have HQ : Hid (D[t] = p ∧ M p = false ∧ cnt M ln.length = h1 ∧ ln.getD p 0 = c ∧ cnt M p = a ∧ (c - n) * (h1 + 1) = P ∧ (basicOf ln).length + t = h1) := ⟨hp, q2, hcn, by rw [getD_at q1, hc], haa, hP, hh1⟩
            obtain ⟨d, hd⟩ : ∃ d, d = P + a - i := ⟨_, rfl⟩
            have hdi : (P : Int) + (a : Int) - (i : Int) = (d : Int) := by omega
            have hdb : d < 1000000000 := by omega
            have HD9 : Hid (d = P + a - i) := hd
            have htb : ((t : Int) == 0) = (t == 0) := beq0_cast t
            have hhh : (((basicOf ln).length : Nat) : Int) + (t : Int) = (h1 : Int) := by omega
            clear hdrop hleft hcn hc haa hP hd hp hloop q2 hh1 hgk
            have HAh := Lib.hid hAh
            clear hAh
            obtain ⟨tb, htb2⟩ : ∃ tb, (t == 0) = tb := ⟨_, rfl⟩
            have HTB := Lib.hid htb2
            rw [htb2] at htb
            clear htb2
            go_wp2_with fail
            go_quiet ((go_at_call 23; exact Calls.quiet_of_same (HAh.out _)))
            have HL2 : Hid (Core w (some ⟨b, off, none⟩) ln cap w.heap.size (w.heap.size + 1) (w.heap.size + 2) o g _ M (wr.drewN nq)) := HL.out.core.drewN nq
            clear hcp hrune hbox HAh
            go_wp2_with (first
              | (go_at_call 24
                 refine (qtell_any (w.heap.size + 1) o _ d bias _ _ _ rfl rfl hdb (by omega) HL2.out.bld HPl.out).mono ?_
                 rintro e w6 ⟨rfl, o6, hb1, hb2, hb3⟩
                 have HT := Lib.hid (And.intro hb1 (And.intro hb2 hb3))
                 clear hb1 hb2 hb3)
              | (go_at_call 25
                 refine (qadapt_any d (h1 + 1) tb _ _ _ rfl (by omega) (by omega) (by omega) (by omega)).mono ?_
                 rintro e w' ⟨rfl, rfl⟩)
              | (go_at_call 18
                 refine (qmark_any (w.heap.size + 2) ln.length p M _ (by omega) q1 HQ.out.2.1 (HL2.out.put HT.out.1 HT.out.2.1 HT.out.2.2).tal).mono ?_
                 rintro e w7 ⟨rfl, ht1, ht2⟩
                 have HM := Lib.hid (And.intro ht1 ht2)
                 clear ht1 ht2))
            go_roundw
            case rel =>
              obtain ⟨e1, e2, e3, e4, e5, e6, e7⟩ := HQ.out
              have hl2 : Loop2 w (some ⟨b, off, none⟩) ln cap w.heap.size (w.heap.size + 1) (w.heap.size + 2) o g D t n i bias M T (wr.drewN nq) := ⟨HL2.out, HL.out.cell, HL.out.run, HL.out.left, HL.out.all, HL.out.count, HL.out.bounds⟩
              have hnx := hl2.next HDs.out.2 hlt e1 hl HS.out (by rw [e3, e4, e5, e6]; exact HD9.out) hdb HT.out.1 HT.out.2.1 HT.out.2.2 HM.out.1 HM.out.2
              rw [e4, e5, HTB.out, e7] at hnx
              exact ⟨t + 1, c, a + 1, _, _, _, _, by go_num, by go_num, by go_num, rfl, by go_num, hlt, hnx⟩
            case measure => simp [intOf]; omega
          · obtain rfl : t = D.length := by omega
            have HF : Hid ((basicOf ln).map UInt8.ofNat ++ (if (basicOf ln).length = 0 then [] else [45]) ++ T = penc ln) := by
              refine HL.out.run.done HS.out (fun q hq => ?_)
              rcases HL.out.all q hq with e | e
              · exact e
              · rw [List.drop_length] at e; cases e
            have HBl := HL.out.core.bld
            rw [HF.out] at HBl
            have HBl := Lib.hid HBl.is
            have HBw := Lib.hid HL.out.core.below
            clear hloop hcn
            go_wp2_with (go_at_call 26; refine (bld_string w.heap.size (w.heap.size + 1) (penc ln) _ (is_from HL.out.core HF.out) HBw.out.size).mono ?_; rintro e w8 ⟨rfl, hb8⟩; have HB8 := Lib.hid hb8; clear hb8)
            go_ret2
            exact ⟨rfl, HBw.out.trans HB8.out⟩
end Go.Proofs.Ytmnpefpglpabmaa

/-
  In this text, one behind the other: YText2, SixVar, SixQuad, YParse, SixRead, YParse2, YParse3, FSmall, FReflect, FIs.
-/
import Derived.Laws.BitsAllLaws
import Derived.Deep.LoopGhost
import Derived.Test.YtfodkkdggajjaaaDoorG2
/-
  The document's Text of layer 8: the walk.
-/
namespace Go.Proofs.YtfodkkdggajjaaaDoor
open Go.RowKit

theorem bnx8 {W a b : World} (h : Below W.heap.size W a) (k : Below a.heap.size a b) : Below W.heap.size W b := h.trans (k.mono h.size)
theorem bnxd8 {W a b : World} (h : Below W.heap.size W a) (k : Below a.drew.heap.size a.drew b) : Below W.heap.size W b := bnx8 h (below_drew8 k)
theorem best8_step (l : List Nat) (k i b : Nat) : best8 l (k + 1) i b = best8 l k (i + 1) (if run8 (l.drop b) < run8 (l.drop i) then i else b) := rfl

set_option maxHeartbeats 4000000 in
set_option maxRecDepth 100000 in
theorem text8_any (a0 a1 a2 a3 a4 a5 a6 a7 : Nat) (w : World) (h6 : ∀ n ∈ [a0, a1, a2, a3, a4, a5, a6, a7], n < 65536) :
    Calls Tryd.prog 9 #[addr8 a0 a1 a2 a3 a4 a5 a6 a7] w (Quiet8 (btx (text8 [a0, a1, a2, a3, a4, a5, a6, a7])) w) := by
  obtain ⟨g, hg⟩ : ∃ g, w.heap.size = g := ⟨_, rfl⟩
  obtain ⟨W, hW⟩ : ∃ W, w.alloc (.cells #[.int .u16 (a0 : Int), .int .u16 (a1 : Int), .int .u16 (a2 : Int), .int .u16 (a3 : Int), .int .u16 (a4 : Int), .int .u16 (a5 : Int), .int .u16 (a6 : Int), .int .u16 (a7 : Int)] 23) = W := ⟨_, rfl⟩
  have HB0 : Hid (Below w.heap.size w W) := by show Below w.heap.size w W; rw [← hW]; exact (Below.refl _ _).alloc (Nat.le_refl _) _
  have hlt : g < W.heap.size := by rw [← hW, ← hg]; simp
  have HCs : Hid (∀ wx, Below W.heap.size W wx → (wx.cell? ⟨g, 0, none⟩ = some (.int .u16 (a0 : Int)) ∧ wx.cell? ⟨g, 1, none⟩ = some (.int .u16 (a1 : Int)) ∧ wx.cell? ⟨g, 2, none⟩ = some (.int .u16 (a2 : Int)) ∧ wx.cell? ⟨g, 3, none⟩ = some (.int .u16 (a3 : Int)) ∧ wx.cell? ⟨g, 4, none⟩ = some (.int .u16 (a4 : Int)) ∧ wx.cell? ⟨g, 5, none⟩ = some (.int .u16 (a5 : Int)) ∧ wx.cell? ⟨g, 6, none⟩ = some (.int .u16 (a6 : Int)) ∧ wx.cell? ⟨g, 7, none⟩ = some (.int .u16 (a7 : Int)))) := by
    intro wx hx
    refine ⟨?_, ?_, ?_, ?_, ?_, ?_, ?_, ?_⟩
    all_goals
      refine (hx.cell (p := ⟨g, _, none⟩) hlt).trans ?_
      rw [← hW, ← hg, World.cell?_alloc_at _ _ _ _ rfl]
      rfl
  have HCk : Hid (∀ wx k, Below W.heap.size W wx → k < 8 → wx.cell? ⟨g, k, none⟩ = some (.int .u16 (([a0, a1, a2, a3, a4, a5, a6, a7].getD k 0 : Nat) : Int))) := by
    intro wx k hx hk
    refine (hx.cell (p := ⟨g, k, none⟩) hlt).trans ?_
    rw [← hW, ← hg]
    exact eight_at w _ k hk
  obtain ⟨l, hl⟩ : ∃ l, [a0, a1, a2, a3, a4, a5, a6, a7] = l := ⟨_, rfl⟩
  have HL := Lib.hid hl
  have HLen : Hid (l.length = 8) := by show l.length = 8; rw [← hl]; rfl
  rw [hl] at h6 HCk ⊢
  have H6 := Lib.hid h6
  clear h6 hl
  unfold addr8
  go_enter Tryd.func9, Tryd.ntmps9
  go_wp2
  try rw [hW]
  try simp only [hg]
  clear hW hg
  go_loopw [3, 4] (fun v3 v4 wr => ∃ i b : Nat, i ≤ 8 ∧ b < 8 ∧ v3 = .int .i64 b ∧ v4 = .int .i64 i ∧ Below W.heap.size W wr ∧ best8 l (8 - i) i b = cutAt l) (fun _ v4 _ => 8 - (intOf v4).toNat)
  case atStart => exact ⟨0, 0, by omega, by omega, rfl, rfl, Below.refl _ _, rfl⟩
  case round =>
    obtain ⟨i, b, hi, hb8, rfl, rfl, hb, hbest⟩ := hrel
    have HBc := Lib.hid hb
    have hS := HCs.out _ hb
    have HBe := Lib.hid hbest
    clear hb hbest
    by_cases hlt8 : i < 8
    · obtain ⟨ri, hri⟩ : ∃ r, run8 (l.drop i) = r := ⟨_, rfl⟩
      obtain ⟨rb, hrb⟩ : ∃ r, run8 (l.drop b) = r := ⟨_, rfl⟩
      have HRi := Lib.hid hri
      have HRb := Lib.hid hrb
      have hil : ri ≤ 8 := by have := run8_le (l.drop i); rw [hri, List.length_drop, HLen.out] at this; omega
      have hbl : rb ≤ 8 := by have := run8_le (l.drop b); rw [hrb, List.length_drop, HLen.out] at this; omega
      have HBe2 : Hid (best8 l (8 - (i + 1)) (i + 1) (if rb < ri then i else b) = cutAt l) := by
        show best8 l (8 - (i + 1)) (i + 1) (if rb < ri then i else b) = cutAt l
        rw [← HBe.out, show 8 - i = (8 - (i + 1)) + 1 by omega, best8_step, hri, hrb]
      clear hri hrb
      go_wp2_with fail
      obtain ⟨s0, s1, s2, s3, s4, s5, s6, s7⟩ := hS
      go_region_held3 (fun wx => wx.cell? ⟨g, 0, none⟩ = some (.int .u16 (a0 : Int)) ∧ wx.cell? ⟨g, 1, none⟩ = some (.int .u16 (a1 : Int)) ∧ wx.cell? ⟨g, 2, none⟩ = some (.int .u16 (a2 : Int)) ∧ wx.cell? ⟨g, 3, none⟩ = some (.int .u16 (a3 : Int)) ∧ wx.cell? ⟨g, 4, none⟩ = some (.int .u16 (a4 : Int)) ∧ wx.cell? ⟨g, 5, none⟩ = some (.int .u16 (a5 : Int)) ∧ wx.cell? ⟨g, 6, none⟩ = some (.int .u16 (a6 : Int)) ∧ wx.cell? ⟨g, 7, none⟩ = some (.int .u16 (a7 : Int))) (first | exact ⟨s0, s1, s2, s3, s4, s5, s6, s7⟩ | exact hS1 | exact hS2 | go_keep) (first
        | (go_at_call 16; (with_reducible refine (run_is HL.out HRi.out _ (by omega) H6.out).mono ?_); rintro e w1 ⟨rfl, hb1⟩; (first | have HBc := Lib.hid (bnx8 HBc.out hb1) | have HBc := Lib.hid (bnxd8 HBc.out hb1)); have hS1 := HCs.out _ HBc.out; clear hb1)
        | (go_at_call 16; (with_reducible refine (run_is HL.out HRb.out _ (by omega) H6.out).mono ?_); rintro e w2 ⟨rfl, hb2⟩; (first | have HBc := Lib.hid (bnx8 HBc.out hb2) | have HBc := Lib.hid (bnxd8 HBc.out hb2)); have hS2 := HCs.out _ HBc.out; clear hb2))
      by_cases hrr : rb < ri
      · rw [if_pos hrr] at HBe2
        go_wp2
        go_roundw
        case rel => exact ⟨i + 1, i, by omega, by omega, by first | rfl | go_num, by go_num, HBc.out, HBe2.out⟩
        case measure => simp [intOf]; omega
      · rw [if_neg hrr] at HBe2
        go_wp2
        go_roundw
        case rel => exact ⟨i + 1, b, by omega, by omega, by first | rfl | go_num, by go_num, HBc.out, HBe2.out⟩
        case measure => simp [intOf]; omega
    · have HCut : Hid (cutAt l = b) := by
        show cutAt l = b
        rw [← HBe.out, show 8 - i = 0 by omega]; rfl
      obtain ⟨n, hn⟩ : ∃ n, run8 (l.drop b) = n := ⟨_, rfl⟩
      have hnl : b + n ≤ 8 := by have := run8_le (l.drop b); rw [hn, List.length_drop, HLen.out] at this; omega
      have HRn := Lib.hid hn
      have HTl := Lib.hid (text8_len HLen.out H6.out).2
      obtain ⟨T, hT⟩ : ∃ T, text8 l = T := ⟨_, rfl⟩
      have HT := Lib.hid hT
      rw [hT] at HTl
      obtain ⟨s0, s1, s2, s3, s4, s5, s6, s7⟩ := hS
      clear HBe hT hn
      by_cases hn2 : n < 2
      · have HA : Hid (T = restA l 0) := by show T = restA l 0; rw [← HT.out]; exact text8_A HCut.out HRn.out hn2
        go_wp2_with (go_at_call 16; (with_reducible refine (run_is HL.out HRn.out _ (by omega) H6.out).mono ?_); rintro e w3 ⟨rfl, hb3⟩; have HBc := Lib.hid (bnx8 HBc.out hb3); clear hb3)
        clear s0 s1 s2 s3 s4 s5 s6 s7
        go_loopw [6, 7] (fun v6 v7 wr => ∃ (j : Nat) (t : List UInt8), j ≤ 8 ∧ v6 = .string (btx t) ∧ v7 = .int .i64 j ∧ Below W.heap.size W wr ∧ T = t ++ restA l j) (fun _ v7 _ => 8 - (intOf v7).toNat)
        case atStart => exact ⟨0, [], by omega, rfl, rfl, HBc.out, HA.out⟩
        case round =>
          obtain ⟨j, t, hj, rfl, rfl, hb, hst⟩ := hrel
          have htl : t.length ≤ 39 := by have := HTl.out; rw [hst, List.length_append] at this; omega
          by_cases hj8 : j < 8
          · rw [restA_step (by rw [HLen.out]; exact hj8)] at hst
            have hck := HCk.out _ j hb hj8
            have HBd := Lib.hid hb
            have HG := Lib.hid (getD_at8 (l := l) (k := j) (by rw [HLen.out]; exact hj8))
            have hx6 := H6.out (l.getD j 0) (by rw [List.getD_eq_getElem?_getD, List.getElem?_eq_getElem (by rw [HLen.out]; exact hj8)]; exact List.getElem_mem _)
            have HSt0 := Lib.hid hst
            obtain ⟨x, hx⟩ : ∃ x, l.getD j 0 = x := ⟨_, rfl⟩
            rw [hx] at hck hx6 HSt0
            obtain ⟨th, hth⟩ : ∃ th, btx (hex8 x) = th := ⟨_, rfl⟩
            have hths : th.size ≤ 4 := by rw [← hth, btx_size]; exact (hex8_four hx6).2
            have HTh := Lib.hid hth
            obtain ⟨sv, hsv⟩ : ∃ sv, btx t = sv := ⟨_, rfl⟩
            have hsvs : sv.size ≤ 39 := by rw [← hsv, btx_size]; exact htl
            have HSv := Lib.hid hsv
            rw [hsv]
            clear hx hth hsv hst hb htl
            by_cases hj0 : 0 < j
            · rw [if_pos hj0] at HSt0
              go_wp2_with (go_at_call 13; refine (hex_is HTh.out hx6 _).mono ?_; rintro e w5 ⟨rfl, hb5⟩; have HB5 := Lib.hid (bnx8 HBd.out hb5); clear hb5)
              go_roundw
              case rel => exact ⟨j + 1, t ++ ([58] ++ hex8 x), by omega, by rw [btx_app8, btx_app8, HSv.out, HTh.out, ← ByteArray.append_assoc]; rfl, by go_num, HB5.out, by rw [HSt0.out]; simp⟩
              case measure => simp [intOf]; omega
            · rw [if_neg hj0] at HSt0
              go_wp2_with (go_at_call 13; refine (hex_is HTh.out hx6 _).mono ?_; rintro e w5 ⟨rfl, hb5⟩; have HB5 := Lib.hid (bnx8 HBd.out hb5); clear hb5)
              go_roundw
              case rel => exact ⟨j + 1, t ++ hex8 x, by omega, by rw [btx_app8, HSv.out, HTh.out], by go_num, HB5.out, by rw [HSt0.out]; simp⟩
              case measure => simp [intOf]; omega
          · have HE : Hid (T = t) := by show T = t; rw [hst, restA_end (by rw [HLen.out]; omega), List.append_nil]
            have HBd := Lib.hid hb
            clear hst hb
            go_wp2
            go_ret
            exact ⟨by rw [HT.out, HE.out]; rfl, HB0.out.trans (HBd.out.mono HB0.out.size)⟩
      · have HA : Hid (T = restB l b n 0) := by show T = restB l b n 0; rw [← HT.out]; exact text8_B HCut.out HRn.out hn2
        have hbl : b ≤ l.length := by rw [HLen.out]; omega
        have HBl := Lib.hid hbl
        clear hbl
        go_wp2_with (go_at_call 16; (with_reducible refine (run_is HL.out HRn.out _ (by omega) H6.out).mono ?_); rintro e w3 ⟨rfl, hb3⟩; have HBc := Lib.hid (bnx8 HBc.out hb3); clear hb3)
        clear s0 s1 s2 s3 s4 s5 s6 s7
        go_loopw [6, 7] (fun v6 v7 wr => ∃ (j : Nat) (t : List UInt8), j ≤ 8 ∧ (j ≤ b ∨ b + n ≤ j) ∧ v6 = .string (btx t) ∧ v7 = .int .i64 j ∧ Below W.heap.size W wr ∧ T = t ++ restB l b n j) (fun _ v7 _ => 8 - (intOf v7).toNat)
        case atStart => exact ⟨0, [], by omega, by omega, rfl, rfl, HBc.out, HA.out⟩
        case round =>
          obtain ⟨j, t, hj, hjb, rfl, rfl, hb, hst⟩ := hrel
          have htl : t.length ≤ 39 := by have := HTl.out; rw [hst, List.length_append] at this; omega
          by_cases hj8 : j < 8
          · by_cases hjl : j < b
            · rw [restB_ahead HBl.out hjl] at hst
              have hck := HCk.out _ j hb hj8
              have HBd := Lib.hid hb
              have hx6 := H6.out (l.getD j 0) (by rw [List.getD_eq_getElem?_getD, List.getElem?_eq_getElem (by rw [HLen.out]; exact hj8)]; exact List.getElem_mem _)
              have HSt0 := Lib.hid hst
              obtain ⟨x, hx⟩ : ∃ x, l.getD j 0 = x := ⟨_, rfl⟩
              rw [hx] at hck hx6 HSt0
              obtain ⟨th, hth⟩ : ∃ th, btx (hex8 x) = th := ⟨_, rfl⟩
              have hths : th.size ≤ 4 := by rw [← hth, btx_size]; exact (hex8_four hx6).2
              have HTh := Lib.hid hth
              obtain ⟨sv, hsv⟩ : ∃ sv, btx t = sv := ⟨_, rfl⟩
              have hsvs : sv.size ≤ 39 := by rw [← hsv, btx_size]; exact htl
              have HSv := Lib.hid hsv
              rw [hsv]
              clear hx hth hsv hst hb htl
              have hje : ((j : Int) == (b : Int)) = false := beq_eq_false_iff_ne.2 (by omega)
              have hjn : ((j : Int) != (b : Int) + (n : Int)) = true := bne_iff_ne.2 (by omega)
              by_cases hj0 : 0 < j
              · rw [if_pos hj0] at HSt0
                go_wp2_with (go_at_call 13; refine (hex_is HTh.out hx6 _).mono ?_; rintro e w5 ⟨rfl, hb5⟩; have HB5 := Lib.hid (bnx8 HBd.out hb5); clear hb5)
                go_roundw
                case rel => exact ⟨j + 1, t ++ ([58] ++ hex8 x), by omega, by omega, by rw [btx_app8, btx_app8, HSv.out, HTh.out, ← ByteArray.append_assoc]; rfl, by go_num, HB5.out, by rw [HSt0.out]; simp⟩
                case measure => simp [intOf]; omega
              · rw [if_neg hj0] at HSt0
                go_wp2_with (go_at_call 13; refine (hex_is HTh.out hx6 _).mono ?_; rintro e w5 ⟨rfl, hb5⟩; have HB5 := Lib.hid (bnx8 HBd.out hb5); clear hb5)
                go_roundw
                case rel => exact ⟨j + 1, t ++ hex8 x, by omega, by omega, by rw [btx_app8, HSv.out, HTh.out], by go_num, HB5.out, by rw [HSt0.out]; simp⟩
                case measure => simp [intOf]; omega
            · by_cases hje0 : j = b
              · subst hje0
                rw [restB_here HBl.out (by omega)] at hst
                have HSt0 := Lib.hid hst
                have HBd := Lib.hid hb
                obtain ⟨sv, hsv⟩ : ∃ sv, btx t = sv := ⟨_, rfl⟩
                have hsvs : sv.size ≤ 39 := by rw [← hsv, btx_size]; exact htl
                have HSv := Lib.hid hsv
                rw [hsv]
                clear hsv hst hb htl hjl
                go_wp2
                go_roundw
                case rel => exact ⟨j + n, t ++ [58, 58], by omega, by omega, by rw [btx_app8, HSv.out]; rfl, by go_num, HBd.out, by rw [HSt0.out]; simp⟩
                case measure => simp [intOf]; omega
              · have hjb2 : b + n ≤ j := by omega
                rw [restB_behind (by omega) hjb2 (by rw [HLen.out]; exact hj8)] at hst
                have hck := HCk.out _ j hb hj8
                have HBd := Lib.hid hb
                have hx6 := H6.out (l.getD j 0) (by rw [List.getD_eq_getElem?_getD, List.getElem?_eq_getElem (by rw [HLen.out]; exact hj8)]; exact List.getElem_mem _)
                have HSt0 := Lib.hid hst
                obtain ⟨x, hx⟩ : ∃ x, l.getD j 0 = x := ⟨_, rfl⟩
                rw [hx] at hck hx6 HSt0
                obtain ⟨th, hth⟩ : ∃ th, btx (hex8 x) = th := ⟨_, rfl⟩
                have hths : th.size ≤ 4 := by rw [← hth, btx_size]; exact (hex8_four hx6).2
                have HTh := Lib.hid hth
                obtain ⟨sv, hsv⟩ : ∃ sv, btx t = sv := ⟨_, rfl⟩
                have hsvs : sv.size ≤ 39 := by rw [← hsv, btx_size]; exact htl
                have HSv := Lib.hid hsv
                rw [hsv]
                clear hx hth hsv hst hb htl
                have hje : ((j : Int) == (b : Int)) = false := beq_eq_false_iff_ne.2 (by omega)
                by_cases hj0 : b + n < j
                · have hjn : ((j : Int) != (b : Int) + (n : Int)) = true := bne_iff_ne.2 (by omega)
                  rw [if_pos hj0] at HSt0
                  go_wp2_with (go_at_call 13; refine (hex_is HTh.out hx6 _).mono ?_; rintro e w5 ⟨rfl, hb5⟩; have HB5 := Lib.hid (bnx8 HBd.out hb5); clear hb5)
                  go_roundw
                  case rel => exact ⟨j + 1, t ++ ([58] ++ hex8 x), by omega, by omega, by rw [btx_app8, btx_app8, HSv.out, HTh.out, ← ByteArray.append_assoc]; rfl, by go_num, HB5.out, by rw [HSt0.out]; simp⟩
                  case measure => simp [intOf]; omega
                · have hjn : ((j : Int) != (b : Int) + (n : Int)) = false := by rw [bne_eq_false_iff_eq]; omega
                  rw [if_neg hj0] at HSt0
                  go_wp2_with (go_at_call 13; refine (hex_is HTh.out hx6 _).mono ?_; rintro e w5 ⟨rfl, hb5⟩; have HB5 := Lib.hid (bnx8 HBd.out hb5); clear hb5)
                  go_roundw
                  case rel => exact ⟨j + 1, t ++ hex8 x, by omega, by omega, by rw [btx_app8, HSv.out, HTh.out], by go_num, HB5.out, by rw [HSt0.out]; simp⟩
                  case measure => simp [intOf]; omega
          · have HE : Hid (T = t) := by show T = t; rw [hst, restB_end (by rw [HLen.out]; omega) (by omega), List.append_nil]
            have HBd := Lib.hid hb
            clear hst hb
            go_wp2
            go_ret
            exact ⟨by rw [HT.out, HE.out]; rfl, HB0.out.trans (HBd.out.mono HB0.out.size)⟩
end Go.Proofs.YtfodkkdggajjaaaDoor

/-
  What the program of layer 8 asks of the library's variables, and the library's functions that it calls, by their contracts: strings.Cut, strings.Contains, strconv.ParseUint.
-/
namespace Go.Proofs.YtfodkkdggajjaaaDoor
open Go.RowKit Go.Shelf

/-- The library's variables: a length, two errors, a table. -/
structure V8 (w : World) : Prop where
  mx : ∃ m, w.cell? ⟨0, 0, none⟩ = some (.int .i64 m)
  es : ∃ ev, w.cell? ⟨2, 0, none⟩ = some ev ∧ (ev = .nilIface ∨ ∃ te pe, ev = .iface te pe)
  er : ∃ ev, w.cell? ⟨3, 0, none⟩ = some ev ∧ (ev = .nilIface ∨ ∃ te pe, ev = .iface te pe)
  tz : TabAt 5 Lib.deBruijn64tab w
theorem cell_lt8 {w : World} {a : Addr} {v : Value} (h : w.cell? a = some v) : a.block < w.heap.size := by
  by_cases hb : a.block < w.heap.size
  · exact hb
  · rw [World.cell?, Array.getElem?_eq_none (by omega)] at h
    cases h
theorem V8.belowB {w w' : World} {B : Nat} (h : V8 w) (hB : B = w.heap.size) (hb : Below B w w') : V8 w' := by
  subst hB
  obtain ⟨⟨m, h1⟩, ⟨e1, h2, h2'⟩, ⟨e2, h3, h3'⟩, h4⟩ := h
  refine ⟨⟨m, ?_⟩, ⟨e1, ?_, h2'⟩, ⟨e2, ?_, h3'⟩, fun j hj => ?_⟩
  · exact (hb.cell (cell_lt8 h1)).trans h1
  · exact (hb.cell (cell_lt8 h2)).trans h2
  · exact (hb.cell (cell_lt8 h3)).trans h3
  · exact (hb.cell (cell_lt8 (h4 j hj))).trans (h4 j hj)
theorem V8.below {w w' : World} (h : V8 w) (hb : Below w.heap.size w w') : V8 w' := h.belowB rfl hb

theorem bytes8 {a b : ByteArray} (h : a.data.toList = b.data.toList) : a = b := by
  cases a; cases b
  exact congrArg ByteArray.mk (Array.toList_inj.1 h)
theorem cutAny8 (s sep : ByteArray) (a b : List UInt8) (t : Bool) (h : Lib.cut s.data.toList sep.data.toList = (a, b, t)) (w : World) (hv : V8 w) (hs : s.size ≤ 10000) :
    Calls Tryd.prog 17 #[.string s, .string sep] w fun e w' => e = .returned (.tuple #[.string (btx a), .string (btx b), .bool t]) ∧ Below w.heap.size w w' := by
  obtain ⟨m, hm⟩ := hv.mx
  refine (Any.strings_Cut lays145 s sep m w (by omega) hm).mono ?_
  rintro e w' ⟨rfl, n, rfl⟩
  rw [h]
  exact ⟨rfl, ⟨rfl, rfl, rfl, Nat.le_refl _, fun _ _ => rfl⟩⟩
theorem dotAny8 (s : ByteArray) (t : Bool) (h : decide (46 ∈ s.data.toList) = t) (w : World) :
    Calls Tryd.prog 26 #[.string s, .string ⟨#[46]⟩] w fun e w' => e = .returned (.bool t) ∧ w = w' := by
  refine (Any.strings_Contains_one lays144 s 46 w).mono ?_
  rintro e w' ⟨rfl, rfl⟩
  refine ⟨?_, rfl⟩
  have : decide (0 ≤ Lib.indexByte s.data.toList 46) = t := by
    rw [← h]
    rcases ib_facts s.data.toList 46 with ⟨h1, h2⟩ | ⟨i, h1, h2, _, h4⟩
    · rw [h1]
      have : ¬ (46 ∈ s.data.toList) := fun hm => h2 46 hm rfl
      rw [decide_eq_false this]; rfl
    · rw [h1]
      have : 46 ∈ s.data.toList := by
        have : 46 ∈ s.data.toList.drop i := by rw [h4]; exact List.mem_cons_self ..
        exact List.mem_of_mem_drop this
      rw [decide_eq_true this, decide_eq_true (by omega)]
  rw [this]
/-- A text up to its first colon. -/
theorem cut_colon (t : List UInt8) : (Lib.cut t [58] = (t, [], false) ∧ ∀ b ∈ t, b ≠ 58) ∨ ∃ p r, Lib.cut t [58] = (p, r, true) ∧ t = p ++ 58 :: r ∧ ∀ b ∈ p, b ≠ 58 := by
  unfold Lib.cut
  rw [Lib.index_one]
  rcases ib_facts t 58 with ⟨h1, h2⟩ | ⟨i, h1, h2, h3, h4⟩
  · left
    rw [h1, if_neg (by decide)]
    exact ⟨rfl, h2⟩
  · right
    rw [h1, if_pos (by omega)]
    refine ⟨t.take i, t.drop (i + 1), rfl, ?_, h3⟩
    rw [← h4, List.take_append_drop]

/-! Numbers by base 16. -/
set_option maxRecDepth 100000 in
theorem pu16_empty (w : World) : Calls Tryd.prog 50 #[.string ⟨#[]⟩, .int .i64 16, .int .i64 16] w fun e w' => e = .returned (hexEnd none) ∧ w = w' := by
  go_enter Tryd.func50, Tryd.ntmps50
  go_wp2
  go_ret2
  exact ⟨rfl, rfl⟩
theorem pu16_all (t : ByteArray) (o : Option Nat) (h : value8 t.data.toList = o) (h4 : t.size ≤ 4) (w : World) :
    Calls Tryd.prog 50 #[.string t, .int .i64 16, .int .i64 16] w fun e w' => e = .returned (hexEnd o) ∧ Below w.heap.size w w' := by
  have hl : t.data.toList.length = t.size := by simp
  by_cases h0 : t.size = 0
  · have hn : t.data.toList = [] := List.eq_nil_of_length_eq_zero (by omega)
    have ht : t = ⟨#[]⟩ := bytes8 (by rw [hn])
    rw [hn] at h
    subst ht
    have : o = none := h.symm
    subst this
    refine (pu16_empty w).mono ?_
    rintro e w' ⟨rfl, rfl⟩
    exact ⟨rfl, Below.refl _ _⟩
  · have : digs 16 0 t.data.toList = o := by
      rw [← h]
      unfold value8
      rw [if_neg]
      rintro (e | e)
      · rw [e] at hl; simp at hl; omega
      · omega
    rw [← this]
    exact pu16_any t h0 h4 w
set_option maxHeartbeats 1000000 in
theorem pub16_some {s : ByteArray} {n : Nat} (h : value8 s.data.toList = some n) (h4 : s.size ≤ 4) (w : World) :
    Calls Tryd.prog 38 #[.string s, .int .i64 16, .int .i64 16] w fun e w' => e = .returned (.tuple #[.int .u64 (n : Int), .nilIface]) ∧ Below w.heap.size w w' := by
  have HC := Lib.hid (pu16_all s _ h h4)
  clear h
  go_enter Tryd.func38, Tryd.ntmps38
  go_wp2_with (go_at_call 50; refine (HC.out _).mono ?_; unfold hexEnd; rintro e w1 ⟨rfl, hb⟩; have HB := Lib.hid hb; clear hb)
  go_ret2
  exact ⟨rfl, HB.out⟩
set_option maxHeartbeats 1000000 in
theorem pub16_none {s : ByteArray} (h : value8 s.data.toList = none) (h4 : s.size ≤ 4) (w : World) (hv : V8 w) :
    Calls Tryd.prog 38 #[.string s, .int .i64 16, .int .i64 16] w fun e w' => ∃ t p, e = .returned (.tuple #[.int .u64 0, .iface t p]) ∧ Below w.heap.size w w' := by
  have HC := Lib.hid (pu16_all s _ h h4)
  have HV := Lib.hid hv
  clear h hv
  go_enter Tryd.func38, Tryd.ntmps38
  go_wp2_with (first
    | (go_at_call 50; refine (HC.out _).mono ?_; unfold hexEnd; rintro e w1 ⟨rfl, hb⟩; have HB := Lib.hid hb; obtain ⟨ev, hc, hev⟩ := (HV.out.below hb).es; have HE := Lib.hid (And.intro hc hev); clear hb hc hev)
    | (go_at_call 51; (refine (AnyPu.strconv_toError_syntax (ρ := lays14_ren) { lays14 with } _ s 16 16 ev _ (by omega) HE.out.1 HE.out.2).mono ?_; rintro e w2 ⟨N, rfl, hN, hc2, hb2⟩; have HB2 := Lib.hid (bnx8 HB.out hb2); clear hN hc2 hb2)))
  go_ret2
  exact ⟨_, _, rfl, HB2.out⟩

/-! Numbers by base 10. -/
theorem pub10_some {s : ByteArray} {n : Nat} (h : endO (Lib.parseUintB 8 s.data.toList) = some n) (hs : s.size ≤ 10000) (w : World) :
    Calls Tryd.prog 38 #[.string s, .int .i64 10, .int .i64 8] w fun e w' => e = .returned (.tuple #[.int .u64 (n : Int), .nilIface]) ∧ Below w.heap.size w w' := by
  rcases hp : Lib.parseUintB 8 s.data.toList with u | _ | _
  · rw [hp] at h
    cases h
    refine (Any.strconv_ParseUint_10_at8_ok lays14 s (by omega) n hp w).mono ?_
    rintro e w' ⟨rfl, hw⟩
    refine ⟨rfl, ?_⟩
    rcases hw with rfl | rfl
    · exact Below.refl _ _
    · exact Lib.bytesWorld_below _ _ _
  · rw [hp] at h; cases h
  · rw [hp] at h; cases h
theorem pub10_none {s : ByteArray} (h : endO (Lib.parseUintB 8 s.data.toList) = none) (hs : s.size ≤ 10000) (w : World) (hv : V8 w) :
    Calls Tryd.prog 38 #[.string s, .int .i64 10, .int .i64 8] w fun e w' => ∃ (v : Nat) (t : TypeId) (p : Value), e = .returned (.tuple #[.int .u64 (v : Int), .iface t p]) ∧ v ≤ 255 ∧ Below w.heap.size w w' := by
  rcases hp : Lib.parseUintB 8 s.data.toList with u | _ | _
  · rw [hp] at h; cases h
  · obtain ⟨ev, hc, hev⟩ := hv.es
    refine (Any.strconv_ParseUint_10_at8_syntax lays14 s (by omega) hp ev w hc hev).mono ?_
    rintro e w' ⟨N, rfl, _, _, hb⟩
    exact ⟨0, _, _, rfl, by omega, hb⟩
  · obtain ⟨ev, hc, hev⟩ := hv.er
    refine (Any.strconv_ParseUint_10_at8_range lays14 s (by omega) hp ev w hc hev).mono ?_
    rintro e w' ⟨N, rfl, _, _, hb⟩
    exact ⟨255, _, _, rfl, by omega, hb⟩

/-! The program's piece and number. -/
set_option maxHeartbeats 1000000 in
theorem piece_some {s : ByteArray} {n : Nat} (h : value8 s.data.toList = some n) (w : World) :
    Calls Tryd.prog 28 #[.string s] w fun e w' => e = .returned (.tuple #[.int .u16 (n : Int), .bool true]) ∧ Below w.heap.size w w' := by
  have hl : s.data.toList.length = s.size := by simp
  have h4 : s.size ≤ 4 := by
    unfold value8 at h
    split at h
    · cases h
    · rename_i hh
      by_cases hlt : 4 < s.data.toList.length
      · exact absurd (.inr hlt) hh
      · omega
  have hn := value8_lt h
  have HC := Lib.hid (pub16_some h h4)
  clear h hl
  go_enter Tryd.func28, Tryd.ntmps28
  go_wp2_with (go_at_call 38; refine (HC.out _).mono ?_; rintro e w1 ⟨rfl, hb⟩; have HB := Lib.hid hb; clear hb)
  go_region
  go_wp2
  go_ret2
  exact ⟨rfl, HB.out.drew⟩
set_option maxHeartbeats 1000000 in
theorem piece_none {s : ByteArray} (h : value8 s.data.toList = none) (w : World) (hv : V8 w) :
    Calls Tryd.prog 28 #[.string s] w fun e w' => e = .returned (.tuple #[.int .u16 0, .bool false]) ∧ Below w.heap.size w w' := by
  by_cases h4 : s.size ≤ 4
  · have HC := Lib.hid (fun w hv => pub16_none h h4 w hv)
    have HV := Lib.hid hv
    clear h hv
    go_enter Tryd.func28, Tryd.ntmps28
    go_wp2_with (go_at_call 38; refine (HC.out _ HV.out).mono ?_; rintro e w1 ⟨t1, p1, rfl, hb⟩; have HB := Lib.hid hb; clear hb)
    go_region
    go_wp2
    go_ret2
    exact ⟨rfl, HB.out.drew⟩
  · go_enter Tryd.func28, Tryd.ntmps28
    go_wp2
    go_ret2
    exact ⟨rfl, Below.refl _ _⟩
end Go.Proofs.YtfodkkdggajjaaaDoor

/-
  The program's number and quad of layer 8, by their contracts.
-/
namespace Go.Proofs.YtfodkkdggajjaaaDoor
open Go.RowKit

/-- A block of numbers of 16 bits. -/
def RowU (t : TypeId) (w : World) (g : Nat) (c : List Nat) : Prop := w.heap[g]? = some (.cells (c.map fun n : Nat => Value.int .u16 (n : Int)).toArray t (0, 0))
theorem RowU.at {t : TypeId} {w : World} {g : Nat} {c : List Nat} (h : RowU t w g c) {j x : Nat} (hx : c[j]? = some x) : w.cell? ⟨g, j, none⟩ = some (.int .u16 (x : Int)) ∧ w.frozen? ⟨g, j, none⟩ = false := by
  unfold RowU at h
  constructor
  · simp [World.cell?, h, hx]
  · simp [World.frozen?, h]
theorem RowU.lt {t : TypeId} {w : World} {g : Nat} {c : List Nat} (h : RowU t w g c) : g < w.heap.size := (Array.getElem?_eq_some_iff.1 h).1
theorem RowU.below {t : TypeId} {w w' : World} {g : Nat} {c : List Nat} (h : RowU t w g c) (hb : Below w.heap.size w w') : RowU t w' g c := (hb.block g h.lt).trans h
theorem RowU.put {t : TypeId} {w : World} {g : Nat} {c : List Nat} (h : RowU t w g c) (j x : Nat) : RowU t (w.setCell ⟨g, j, none⟩ (.int .u16 (x : Int))) g (c.set j x) := by
  unfold RowU
  rw [heap_setCell_same w g j _ _ _ h]
  congr 2
  apply Array.toList_inj.1
  simp [List.map_set]
theorem RowU.other {t : TypeId} {w : World} {g : Nat} {c : List Nat} (h : RowU t w g c) {a : Addr} (ha : g ≠ a.block) (u : Value) : RowU t (w.setCell a u) g c := by
  unfold RowU
  rw [Below.heap_setCell _ _ _ _ ha]
  exact h
theorem RowU.new (t : TypeId) (w : World) (c : List Nat) : RowU t (w.alloc (.cells (c.map fun n : Nat => Value.int .u16 (n : Int)).toArray t)) w.heap.size c := heap_alloc_new w _
/-- Numbers, and noughts up to so many. -/
def padN (N : Nat) (ns : List Nat) : List Nat := ns ++ List.replicate (N - ns.length) 0
theorem padN_len {N : Nat} {ns : List Nat} (h : ns.length ≤ N) : (padN N ns).length = N := by simp [padN]; omega
theorem padN_set {N : Nat} {ns : List Nat} (h : ns.length < N) (x : Nat) : (padN N ns).set ns.length x = padN N (ns ++ [x]) := by
  unfold padN
  rw [List.set_append_right _ _ (Nat.le_refl _), Nat.sub_self, List.length_append, List.append_assoc]
  congr 1
  obtain ⟨k, hk⟩ : ∃ k, N - ns.length = k + 1 := ⟨N - ns.length - 1, by omega⟩
  rw [hk, List.replicate_succ, List.set_cons_zero, show N - (ns.length + [x].length) = k by simp; omega]
  rfl
theorem padN_at {N : Nat} {ns : List Nat} {j : Nat} (h : j < N) (hn : ns.length ≤ N) : (padN N ns)[j]? = some ((padN N ns).getD j 0) := by
  rw [List.getD_eq_getElem?_getD, List.getElem?_eq_getElem (by rw [padN_len hn]; exact h)]; rfl

theorem head8 (s : ByteArray) (h : 0 < s.size) : s.data.toList.head? = some (s[0]'h) := by
  have := drop_byte s 0 h
  rw [List.drop_zero] at this
  rw [this]; rfl
set_option maxHeartbeats 1000000 in
theorem number_some {s : ByteArray} {n : Nat} (h : small8 s.data.toList = some n) (hs : s.size ≤ 10000) (w : World) :
    Calls Tryd.prog 37 #[.string s] w fun e w' => e = .returned (.tuple #[.int .u16 (n : Int), .bool true]) ∧ Below w.heap.size w w' := by
  have hl : s.data.toList.length = s.size := by simp
  have hn := small8_le h
  have hno : ¬ (1 < s.data.toList.length ∧ s.data.toList.head? = some 48) := fun hh => by rw [small8_nought hh] at h; cases h
  have HC := Lib.hid (pub10_some ((small8_lib hno).symm.trans h) hs)
  have HNo := Lib.hid hno
  clear h hno
  by_cases h1 : 1 < s.size
  · have h0 : 0 < s.size := by omega
    have hc : (((s[0]'h0).toNat : Int) == 48) = false := by
      rw [beq_eq_false_iff_ne]
      intro e
      refine HNo.out ⟨by omega, ?_⟩
      rw [head8 s h0]
      congr 1
      rw [← UInt8.toNat_inj]
      show (s[0]'h0).toNat = 48
      omega
    clear hl
    go_enter Tryd.func37, Tryd.ntmps37
    go_wp2_with (go_at_call 38; refine (HC.out _).mono ?_; rintro e w1 ⟨rfl, hb⟩; have HB := Lib.hid hb; clear hb)
    go_region
    go_wp2
    go_ret2
    exact ⟨rfl, HB.out.drew⟩
  · clear hl
    go_enter Tryd.func37, Tryd.ntmps37
    go_wp2_with (go_at_call 38; refine (HC.out _).mono ?_; rintro e w1 ⟨rfl, hb⟩; have HB := Lib.hid hb; clear hb)
    go_region
    go_wp2
    go_ret2
    exact ⟨rfl, HB.out.drew⟩
set_option maxHeartbeats 1000000 in
theorem number_none {s : ByteArray} (h : small8 s.data.toList = none) (hs : s.size ≤ 10000) (w : World) (hv : V8 w) :
    Calls Tryd.prog 37 #[.string s] w fun e w' => ∃ v : Nat, e = .returned (.tuple #[.int .u16 (v : Int), .bool false]) ∧ Below w.heap.size w w' := by
  have hl : s.data.toList.length = s.size := by simp
  have HV := Lib.hid hv
  clear hv
  by_cases h1 : 1 < s.size
  · have h0 : 0 < s.size := by omega
    by_cases h48 : ((s[0]'h0).toNat : Int) = 48
    · have hc : (((s[0]'h0).toNat : Int) == 48) = true := beq_iff_eq.2 h48
      clear h48 h hl
      go_enter Tryd.func37, Tryd.ntmps37
      go_wp2
      go_ret2
      exact ⟨0, rfl, Below.refl _ _⟩
    · have hc : (((s[0]'h0).toNat : Int) == 48) = false := beq_eq_false_iff_ne.2 h48
      have hno : ¬ (1 < s.data.toList.length ∧ s.data.toList.head? = some 48) := by
        rintro ⟨_, e⟩
        rw [head8 s h0] at e
        exact h48 (by rw [Option.some.inj e]; rfl)
      have HC := Lib.hid (fun w hv => pub10_none ((small8_lib hno).symm.trans h) hs w hv)
      clear h48 h hl hno
      go_enter Tryd.func37, Tryd.ntmps37
      go_wp2_with (go_at_call 38; refine (HC.out _ HV.out).mono ?_; rintro e w1 ⟨v, t1, p1, rfl, hv1, hb⟩; have HB := Lib.hid hb; clear hb)
      go_region
      go_wp2
      go_ret2
      exact ⟨v, rfl, HB.out.drew⟩
  · have hno : ¬ (1 < s.data.toList.length ∧ s.data.toList.head? = some 48) := fun hh => by omega
    have HC := Lib.hid (fun w hv => pub10_none ((small8_lib hno).symm.trans h) hs w hv)
    clear h hl hno
    go_enter Tryd.func37, Tryd.ntmps37
    go_wp2_with (go_at_call 38; refine (HC.out _ HV.out).mono ?_; rintro e w1 ⟨v, t1, p1, rfl, hv1, hb⟩; have HB := Lib.hid hb; clear hb)
    go_region
    go_wp2
    go_ret2
    exact ⟨v, rfl, HB.out.drew⟩

/-! The quad. -/
theorem quad8_len {l : List UInt8} (h : (cut7 46 l).length ≠ 4) : quad8 l = none := by
  unfold quad8
  split
  · rename_i he; rw [he] at h; simp at h
  · rfl
theorem quad8_four {l a b c d : List UInt8} (h : cut7 46 l = [a, b, c, d]) : quad8 l = (match small8 a, small8 b, small8 c, small8 d with
    | some x, some y, some z, some t => some (256 * x + y, 256 * z + t)
    | _, _, _, _ => none) := by
  unfold quad8; rw [h]; rfl
theorem quad8_no {l a b c d x : List UInt8} (h : cut7 46 l = [a, b, c, d]) {k : Nat} (hx : [a, b, c, d][k]? = some x) (hn : small8 x = none) : quad8 l = none := by
  rw [quad8_four h]
  match k, hx with
  | 0, hx => cases hx; rw [hn]
  | 1, hx => cases hx; rw [hn]; cases small8 a <;> rfl
  | 2, hx => cases hx; rw [hn]; cases small8 a <;> cases small8 b <;> rfl
  | 3, hx => cases hx; rw [hn]; cases small8 a <;> cases small8 b <;> cases small8 c <;> rfl
theorem or8 (x y : Nat) (hx : x ≤ 255) (hy : y ≤ 255) : bits .or .u16 ((x : Int) * 256) (y : Int) = ((256 * x + y : Nat) : Int) := by
  have h := u16_or_nat (x * 256) y (by omega) (by omega)
  have h2 := Nat.two_pow_add_eq_or_of_lt (i := 8) (b := y) (by omega) x
  have e : (((x * 256 : Nat) : Int)) = (x : Int) * 256 := by omega
  rw [e] at h
  rw [h, Nat.mul_comm x 256, ← h2]
theorem map_some_take {ps : List (List UInt8)} {ns : List Nat} {k n : Nat} {x : List UInt8} (h : (ps.take k).map small8 = ns.map some) (hx : ps[k]? = some x) (hn : small8 x = some n) : (ps.take (k + 1)).map small8 = (ns ++ [n]).map some := by
  rw [List.take_add_one, hx, List.map_append, h, List.map_append]
  simp [hn]
theorem four_of {a b c d : List UInt8} {ns : List Nat} (h : [a, b, c, d].map small8 = ns.map some) : ∃ n0 n1 n2 n3, ns = [n0, n1, n2, n3] ∧ small8 a = some n0 ∧ small8 b = some n1 ∧ small8 c = some n2 ∧ small8 d = some n3 := by
  have hl : ns.length = 4 := by have := congrArg List.length h; simpa using this.symm
  match ns, hl with
  | [n0, n1, n2, n3], _ =>
    simp only [List.map_cons, List.map_nil, List.cons.injEq, and_true] at h
    exact ⟨n0, n1, n2, n3, rfl, h⟩
/-- Four numbers and what they stand for. -/
def QOut : Option (Nat × Nat) → Value
  | none => .tuple #[.int .u16 0, .int .u16 0, .bool false]
  | some (x, y) => .tuple #[.int .u16 (x : Int), .int .u16 (y : Int), .bool true]
set_option maxHeartbeats 2000000 in
set_option maxRecDepth 100000 in
theorem quad_any (s : ByteArray) (hs : s.size ≤ 10000) (w : World) (hv : V8 w) (R : Option (Nat × Nat)) (hR : quad8 s.data.toList = R) :
    Calls Tryd.prog 27 #[.string s] w fun e w' => e = .returned (QOut R) ∧ Below w.heap.size w w' := by
  have HV := Lib.hid hv
  clear hv
  by_cases h4 : (cut7 46 s.data.toList).length = 4
  · have HF := Lib.hid (spl5_few (show (cut7 46 s.data.toList).length ≤ 4 by omega))
    have HMm : Hid (∀ p ∈ cut7 46 s.data.toList, p.length ≤ 10000) := fun p hp => by
      have h1 := cut7_mem hp
      have h2 : s.data.toList.length = s.size := by simp
      omega
    obtain ⟨ps, hps⟩ : ∃ ps, cut7 46 s.data.toList = ps := ⟨_, rfl⟩
    have HPs := Lib.hid hps
    rw [hps] at h4 HF HMm
    have HR := Lib.hid hR
    clear hR hps
    go_enter Tryd.func27, Tryd.ntmps27
    go_wp2_with (go_at_call 36; refine (zsplit_any _ _ hs).mono ?_; rw [HF.out]; rintro e w2 ⟨A, c, rfl, hcap, hstr, hb⟩; have HB := Lib.hid hb; have HSt := Lib.hid hstr; clear hstr hb)
    have HRow : Hid (RowU 85 (w2.alloc (.cells #[.int .u16 0, .int .u16 0, .int .u16 0, .int .u16 0] 85)) w2.heap.size (padN 4 [])) := by
      show RowU _ _ _ _
      exact RowU.new 85 w2 [0, 0, 0, 0]
    have HB2 : Hid (Below w2.heap.size w2 (w2.alloc (.cells #[.int .u16 0, .int .u16 0, .int .u16 0, .int .u16 0] 85))) := by
      show Below _ _ _
      exact (Below.refl _ _).alloc (Nat.le_refl _) _
    generalize (w2.alloc (.cells #[.int .u16 0, .int .u16 0, .int .u16 0, .int .u16 0] 85)) = W at HRow HB2 ⊢
    obtain ⟨g, hg⟩ : ∃ g, w2.heap.size = g := ⟨_, rfl⟩
    rw [hg] at HRow HB2 ⊢
    have HG := Lib.hid hg
    clear hg
    go_loopw [18] (fun i wr => ∃ (k : Nat) (ns : List Nat), k ≤ 4 ∧ i = .int .i64 k ∧ ns.length = k ∧ Hid ((ps.take k).map small8 = ns.map some) ∧ RowU 85 wr g (padN 4 ns) ∧ Below g w2 wr) (fun i _ => 4 - (intOf i).toNat)
    case atStart => exact ⟨0, [], by omega, rfl, rfl, Lib.hid rfl, HRow.out, HB2.out⟩
    case round =>
      obtain ⟨k, ns, hk, rfl, hnl, HNs, hrow, hbl⟩ := hrel
      have hgl := hrow.lt
      have HRw := Lib.hid hrow
      have HBl := Lib.hid hbl
      have HBw : Hid (Below w.heap.size w wr) := by
        show Below w.heap.size w wr
        exact bnx8 HB.out (HG.out ▸ hbl)
      have HVr := Lib.hid (HV.out.below HBw.out)
      have HSr : Hid (Strs wr A (ps.map btx)) := by
        show Strs wr A (ps.map btx)
        exact HSt.out.below (HG.out ▸ hbl)
      clear hrow hbl
      by_cases hlt : k < 4
      · have hx : ps[k]? = some (ps[k]'(by omega)) := List.getElem?_eq_getElem (by omega)
        have HLx := Lib.hid (HMm.out _ (List.getElem_mem (show k < ps.length by omega)))
        obtain ⟨x, hxx⟩ : ∃ x, ps[k]'(by omega) = x := ⟨_, rfl⟩
        rw [hxx] at hx HLx
        have HX := Lib.hid hx
        obtain ⟨b, off, rfl, hblt, hc⟩ := strs_at HSr.out hx
        have hxs : (btx x).size ≤ 10000 := by rw [btx_size]; exact HLx.out
        clear hxx hx
        cases hsm : small8 x with
        | none =>
          have HNn : Hid (R = none) := by
            show R = none
            rw [← HR.out]
            match ps, h4, HPs, HX with
            | [a1, a2, a3, a4], _, HPs, HX => exact quad8_no HPs.out HX.out hsm
          have HCn := Lib.hid (fun w hv => number_none (s := btx x) hsm hxs w hv)
          clear hsm
          go_wp2_with (go_at_call 37; refine (HCn.out _ HVr.out).mono ?_; rintro e w3 ⟨v, rfl, hb⟩; have HB3 := Lib.hid (bnx8 HBw.out hb); clear hb)
          go_ret3
          exact ⟨by rw [HNn.out]; rfl, HB3.out⟩
        | some n =>
          have hn := small8_le hsm
          have HN2 := Lib.hid (map_some_take HNs.out HX.out hsm)
          have HCn := Lib.hid (number_some (s := btx x) hsm hxs)
          clear hsm
          go_wp2_with (go_at_call 37; refine (HCn.out _).mono ?_; rintro e w3 ⟨rfl, hb⟩; have HRw3 := Lib.hid (HRw.out.below hb); have hgl3 := HRw3.out.lt; obtain ⟨hcell, hfz⟩ := HRw3.out.at (padN_at (show k < 4 from hlt) (by omega)); have HB3 := Lib.hid (HBl.out.trans (hb.mono (Nat.le_of_lt hgl))); clear hb)
          go_roundw
          case rel => exact ⟨k + 1, ns ++ [n], by omega, by go_num, by simp [hnl], HN2, by have := HRw3.out.put k n; rw [← hnl, padN_set (by omega)] at this; rw [← hnl]; exact this, HB3.out.setCell (Nat.le_refl _) _⟩
          case measure => simp [intOf]; omega
      · obtain rfl : k = 4 := by omega
        have hps : ∃ a b c d, ps = [a, b, c, d] := by
          match ps, h4 with
          | [a, b, c, d], _ => exact ⟨a, b, c, d, rfl⟩
        obtain ⟨a1, a2, a3, a4, rfl⟩ := hps
        obtain ⟨n0, n1, n2, n3, rfl, e0, e1, e2, e3⟩ := four_of HNs.out
        have HQ : Hid (R = some (256 * n0 + n1, 256 * n2 + n3)) := by
          show R = _
          rw [← HR.out, quad8_four HPs.out, e0, e1, e2, e3]
        have b0 := small8_le e0
        have b1 := small8_le e1
        have b2 := small8_le e2
        have b3 := small8_le e3
        clear e0 e1 e2 e3
        obtain ⟨c0, f0⟩ := HRw.out.at (show (padN 4 [n0, n1, n2, n3])[0]? = some n0 from rfl)
        obtain ⟨c1, f1⟩ := HRw.out.at (show (padN 4 [n0, n1, n2, n3])[1]? = some n1 from rfl)
        obtain ⟨c2, f2⟩ := HRw.out.at (show (padN 4 [n0, n1, n2, n3])[2]? = some n2 from rfl)
        obtain ⟨c3, f3⟩ := HRw.out.at (show (padN 4 [n0, n1, n2, n3])[3]? = some n3 from rfl)
        have o1 := or8 n0 n1 b0 b1
        have o2 := or8 n2 n3 b2 b3
        go_wp2
        go_region
        go_wp2
        go_ret3
        exact ⟨by rw [HQ.out]; rfl, HBw.out.drew⟩
  · have hq := quad8_len h4
    rw [hR] at hq
    subst hq
    have HL : Hid ((spl5 s.data.toList).length ≠ 4) := by
      show (spl5 s.data.toList).length ≠ 4
      by_cases h5 : (cut7 46 s.data.toList).length ≤ 4
      · rw [spl5_few h5]; exact h4
      · rw [spl5_many h5]; decide
    clear hR h4
    obtain ⟨ps, hps⟩ : ∃ ps, spl5 s.data.toList = ps := ⟨_, rfl⟩
    rw [hps] at HL
    have HPs := Lib.hid hps
    clear hps
    go_enter Tryd.func27, Tryd.ntmps27
    go_wp2_with (go_at_call 36; refine (zsplit_any _ _ hs).mono ?_; rw [HPs.out]; rintro e w2 ⟨A, c, rfl, hcap, hstr, hb⟩; have HB := Lib.hid hb; have hne : ((ps.length : Int) != 4) = true := bne_iff_ne.2 (by have := HL.out; omega); clear hstr hb)
    go_ret3
    exact ⟨rfl, HB.out⟩
end Go.Proofs.YtfodkkdggajjaaaDoor

/-
  The document's Parse of layer 8, by its contract.
-/
namespace Go.Proofs.YtfodkkdggajjaaaDoor
open Go.RowKit

/-- A block that holds eight pieces. -/
def Row8 (w : World) (g : Nat) (c : List Nat) : Prop := w.heap[g]? = some (.cells (c.map fun n : Nat => Value.int .u16 (n : Int)).toArray 23 (0, 0))
theorem Row8.at {w : World} {g : Nat} {c : List Nat} (h : Row8 w g c) {j x : Nat} (hx : c[j]? = some x) : w.cell? ⟨g, j, none⟩ = some (.int .u16 (x : Int)) ∧ w.frozen? ⟨g, j, none⟩ = false := by
  unfold Row8 at h
  constructor
  · simp [World.cell?, h, hx]
  · simp [World.frozen?, h]
theorem Row8.lt {w : World} {g : Nat} {c : List Nat} (h : Row8 w g c) : g < w.heap.size := (Array.getElem?_eq_some_iff.1 h).1
theorem Row8.below {w w' : World} {g : Nat} {c : List Nat} (h : Row8 w g c) (hb : Below w.heap.size w w') : Row8 w' g c := (hb.block g h.lt).trans h
theorem Row8.put {w : World} {g : Nat} {c : List Nat} (h : Row8 w g c) (j x : Nat) : Row8 (w.setCell ⟨g, j, none⟩ (.int .u16 (x : Int))) g (c.set j x) := by
  unfold Row8
  rw [heap_setCell_same w g j _ _ _ h]
  congr 2
  apply Array.toList_inj.1
  simp [List.map_set]
theorem Row8.other {w : World} {g : Nat} {c : List Nat} (h : Row8 w g c) {a : Addr} (ha : g ≠ a.block) (u : Value) : Row8 (w.setCell a u) g c := by
  unfold Row8
  rw [Below.heap_setCell _ _ _ _ ha]
  exact h
def agg8 (c : List Nat) : Value := .agg (c.map fun n : Nat => Value.int .u16 (n : Int)).toArray
def zero8 : List Nat := [0, 0, 0, 0, 0, 0, 0, 0]
def P8Post (o : Option (List Nat)) (w : World) (e : Ending) (w' : World) : Prop := match o with
  | none => e = .returned (.tuple #[agg8 zero8, .int .i64 2]) ∧ Below w.heap.size w w'
  | some c => e = .returned (.tuple #[agg8 c, .int .i64 0]) ∧ Below w.heap.size w w'
theorem set_step8 {l z : List Nat} (hl : l.length = 8) (hz : z.length = 8) {i x : Nat} (hi : i < 8) (hx : l[i]? = some x) : (l.take i ++ z.drop i).set i x = l.take (i + 1) ++ z.drop (i + 1) := by
  have h1 : (l.take i).length = i := by rw [List.length_take]; omega
  obtain ⟨hi2, hx2⟩ := List.getElem?_eq_some_iff.1 hx
  rw [List.set_append_right _ _ (by omega), h1, Nat.sub_self, List.drop_eq_getElem_cons (by omega), List.set_cons_zero, List.take_succ_eq_append_getElem hi2, hx2]
  simp
theorem MadeH.cellAt {B : Nat} {w : World} {v : Value} {l : List Nat} (h : MadeH B w v l) {i x : Nat} (hx : l[i]? = some x) : ∃ g c, v = .slice (some ⟨g, 0, none⟩) l.length c ∧ B ≤ g ∧ w.cell? ⟨g, i, none⟩ = some (.int .u16 (x : Int)) := by
  have h' : w.ownsRow B 22 1 v l.length (l.map fun n : Nat => Value.int .u16 (n : Int)) := h
  obtain ⟨hi, _⟩ := List.getElem?_eq_some_iff.1 hx
  rcases h.2 with ⟨_, h0⟩ | ⟨g, cap, cur, rfl, hB, _⟩
  · omega
  · refine ⟨g, cap, rfl, hB, ?_⟩
    rw [h'.cellAt (g := g) i (by simpa using hi), List.getElem?_map, hx]; rfl
theorem MadeH.setOther {B : Nat} {w : World} {v : Value} {l : List Nat} (h : MadeH B w v l) {a : Addr} (ha : a.block < B) (u : Value) : MadeH B (w.setCell a u) v l := ownsRow_setCell_below h ha u

end Go.Proofs.YtfodkkdggajjaaaDoor

/-
  The program's read of layer 8, by its contract.
-/
namespace Go.Proofs.YtfodkkdggajjaaaDoor
open Go.RowKit

theorem eight_of8 {l : List Nat} (h : l.length = 8) : ∃ x0 x1 x2 x3 x4 x5 x6 x7, l = [x0, x1, x2, x3, x4, x5, x6, x7] := by
  match l, h with
  | [x0, x1, x2, x3, x4, x5, x6, x7], _ => exact ⟨x0, x1, x2, x3, x4, x5, x6, x7, rfl⟩
theorem rows8 {t : TypeId} {w : World} {g : Nat} {x0 x1 x2 x3 x4 x5 x6 x7 : Nat} (h : RowU t w g [x0, x1, x2, x3, x4, x5, x6, x7]) : w.cell? ⟨g, 0, none⟩ = some (.int .u16 (x0 : Int)) ∧ w.cell? ⟨g, 1, none⟩ = some (.int .u16 (x1 : Int)) ∧ w.cell? ⟨g, 2, none⟩ = some (.int .u16 (x2 : Int)) ∧ w.cell? ⟨g, 3, none⟩ = some (.int .u16 (x3 : Int)) ∧ w.cell? ⟨g, 4, none⟩ = some (.int .u16 (x4 : Int)) ∧ w.cell? ⟨g, 5, none⟩ = some (.int .u16 (x5 : Int)) ∧ w.cell? ⟨g, 6, none⟩ = some (.int .u16 (x6 : Int)) ∧ w.cell? ⟨g, 7, none⟩ = some (.int .u16 (x7 : Int)) ∧ w.frozen? ⟨g, 0, none⟩ = false ∧ w.frozen? ⟨g, 1, none⟩ = false ∧ w.frozen? ⟨g, 2, none⟩ = false ∧ w.frozen? ⟨g, 3, none⟩ = false ∧ w.frozen? ⟨g, 4, none⟩ = false ∧ w.frozen? ⟨g, 5, none⟩ = false ∧ w.frozen? ⟨g, 6, none⟩ = false ∧ w.frozen? ⟨g, 7, none⟩ = false := ⟨(h.at (j := 0) rfl).1, (h.at (j := 1) rfl).1, (h.at (j := 2) rfl).1, (h.at (j := 3) rfl).1, (h.at (j := 4) rfl).1, (h.at (j := 5) rfl).1, (h.at (j := 6) rfl).1, (h.at (j := 7) rfl).1, (h.at (j := 0) rfl).2, (h.at (j := 1) rfl).2, (h.at (j := 2) rfl).2, (h.at (j := 3) rfl).2, (h.at (j := 4) rfl).2, (h.at (j := 5) rfl).2, (h.at (j := 6) rfl).2, (h.at (j := 7) rfl).2⟩
theorem put8_rows {t : TypeId} {W : World} {g : Nat} {l : List Nat} (h : RowU t W g l) (hl : l.length = 8) (x0 x1 x2 x3 x4 x5 x6 x7 : Nat) : RowU t ((((((((W.setCell ⟨g, 0, none⟩ (.int .u16 (x0 : Int))).setCell ⟨g, 1, none⟩ (.int .u16 (x1 : Int))).setCell ⟨g, 2, none⟩ (.int .u16 (x2 : Int))).setCell ⟨g, 3, none⟩ (.int .u16 (x3 : Int))).setCell ⟨g, 4, none⟩ (.int .u16 (x4 : Int))).setCell ⟨g, 5, none⟩ (.int .u16 (x5 : Int))).setCell ⟨g, 6, none⟩ (.int .u16 (x6 : Int))).setCell ⟨g, 7, none⟩ (.int .u16 (x7 : Int))) g [x0, x1, x2, x3, x4, x5, x6, x7] := by
  obtain ⟨y0, y1, y2, y3, y4, y5, y6, y7, rfl⟩ := eight_of8 hl
  exact (((((((h.put 0 x0).put 1 x1).put 2 x2).put 3 x3).put 4 x4).put 5 x5).put 6 x6).put 7 x7
theorem read_res {W : World} {g : Nat} {x0 x1 x2 x3 x4 x5 x6 x7 : Nat} (h : RowU 23 W g [x0, x1, x2, x3, x4, x5, x6, x7]) (tmps : Array Value) (n b : Value) (h4 : tmps.getD 4 undef = .pointer (some ⟨g, 0, none⟩)) (h5 : tmps.getD 5 undef = n) (h6 : tmps.getD 6 undef = b) :
    (results Tryd.f18 tmps).run Tryd.prog W = .ok (.tuple #[.agg #[.int .u16 (x0 : Int), .int .u16 (x1 : Int), .int .u16 (x2 : Int), .int .u16 (x3 : Int), .int .u16 (x4 : Int), .int .u16 (x5 : Int), .int .u16 (x6 : Int), .int .u16 (x7 : Int)], n, b]) W := by
  obtain ⟨c0, c1, c2, c3, c4, c5, c6, c7, f0, f1, f2, f3, f4, f5, f6, f7⟩ := rows8 h
  rw [Array.getD_eq_getD_getElem?] at h4 h5 h6
  simp [results, Tryd.results18, go_sem, h4, h5, h6, c0, c1, c2, c3, c4, c5, c6, c7]
theorem short7 {l : List Nat} (h : l.length + 2 ≤ 8) : (l = []) ∨ (∃ a0, l = [a0]) ∨ (∃ a0 a1, l = [a0, a1]) ∨ (∃ a0 a1 a2, l = [a0, a1, a2]) ∨ (∃ a0 a1 a2 a3, l = [a0, a1, a2, a3]) ∨ (∃ a0 a1 a2 a3 a4, l = [a0, a1, a2, a3, a4]) ∨ (∃ a0 a1 a2 a3 a4 a5, l = [a0, a1, a2, a3, a4, a5]) := by
  match l, h with
  | [], _ => exact .inl rfl
  | [a0], _ => exact .inr (.inl ⟨a0, rfl⟩)
  | [a0, a1], _ => exact .inr (.inr (.inl ⟨a0, a1, rfl⟩))
  | [a0, a1, a2], _ => exact .inr (.inr (.inr (.inl ⟨a0, a1, a2, rfl⟩)))
  | [a0, a1, a2, a3], _ => exact .inr (.inr (.inr (.inr (.inl ⟨a0, a1, a2, a3, rfl⟩))))
  | [a0, a1, a2, a3, a4], _ => exact .inr (.inr (.inr (.inr (.inr (.inl ⟨a0, a1, a2, a3, a4, rfl⟩)))))
  | [a0, a1, a2, a3, a4, a5], _ => exact .inr (.inr (.inr (.inr (.inr (.inr (⟨a0, a1, a2, a3, a4, a5, rfl⟩))))))
  | _ :: _ :: _ :: _ :: _ :: _ :: _ :: l, h => simp at h
/-- What read answers: the pieces from the array's begin on, and how many; or that there are none. -/
def RdPost (o : Option (List Nat)) (w : World) (e : Ending) (w' : World) : Prop := match o with
  | none => ∃ c : List Nat, c.length = 8 ∧ e = .returned (.tuple #[agg8 c, .int .i64 0, .bool false]) ∧ Below w.heap.size w w'
  | some l => e = .returned (.tuple #[agg8 (padN 8 l), .int .i64 (l.length : Nat), .bool true]) ∧ Below w.heap.size w w'
theorem below_put8 {w W : World} {g : Nat} (hg : w.heap.size ≤ g) (hb : Below w.heap.size w W) (v0 v1 v2 v3 v4 v5 v6 v7 : Value) : Below w.heap.size w ((((((((W.setCell ⟨g, 0, none⟩ v0).setCell ⟨g, 1, none⟩ v1).setCell ⟨g, 2, none⟩ v2).setCell ⟨g, 3, none⟩ v3).setCell ⟨g, 4, none⟩ v4).setCell ⟨g, 5, none⟩ v5).setCell ⟨g, 6, none⟩ v6).setCell ⟨g, 7, none⟩ v7) :=
  (((((((hb.setCell hg _).setCell hg _).setCell hg _).setCell hg _).setCell hg _).setCell hg _).setCell hg _).setCell hg _
def mea8 : Value → Value → Nat
  | .string t, .bool true => t.size + 1
  | _, _ => 0
theorem rd_none {w w' : World} {R : Option (List Nat)} {x0 x1 x2 x3 x4 x5 x6 x7 : Nat} (h : R = none) (hb : Below w.heap.size w w') : RdPost R w (.returned (.tuple #[.agg #[.int .u16 (x0 : Int), .int .u16 (x1 : Int), .int .u16 (x2 : Int), .int .u16 (x3 : Int), .int .u16 (x4 : Int), .int .u16 (x5 : Int), .int .u16 (x6 : Int), .int .u16 (x7 : Int)], .int .i64 0, .bool false])) w' := by
  rw [h]
  exact ⟨[x0, x1, x2, x3, x4, x5, x6, x7], rfl, rfl, hb⟩
theorem rd_some {w w' : World} {R : Option (List Nat)} {l : List Nat} {n : Int} {x0 x1 x2 x3 x4 x5 x6 x7 : Nat} (h : R = some l) (hp : padN 8 l = [x0, x1, x2, x3, x4, x5, x6, x7]) (hn : n = (l.length : Nat)) (hb : Below w.heap.size w w') : RdPost R w (.returned (.tuple #[.agg #[.int .u16 (x0 : Int), .int .u16 (x1 : Int), .int .u16 (x2 : Int), .int .u16 (x3 : Int), .int .u16 (x4 : Int), .int .u16 (x5 : Int), .int .u16 (x6 : Int), .int .u16 (x7 : Int)], .int .i64 n, .bool true])) w' := by
  rw [h]
  refine ⟨?_, hb⟩
  rw [hp, hn]
  rfl

set_option maxHeartbeats 8000000 in
set_option maxRecDepth 100000 in
theorem read_any (s : ByteArray) (last : Bool) (hs : s.size ≤ 10000) (w : World) (hv : V8 w) (R : Option (List Nat)) (hR : side8 s.data.toList last = R) : Calls Tryd.prog 18 #[.string s, .bool last] w (RdPost R w) := by
  have HRow : Hid (RowU 23 (w.alloc (.cells #[.int .u16 0, .int .u16 0, .int .u16 0, .int .u16 0, .int .u16 0, .int .u16 0, .int .u16 0, .int .u16 0] 23)) w.heap.size (padN 8 [])) := by
    show RowU _ _ _ _
    exact RowU.new 23 w zero8
  have HB2 : Hid (Below w.heap.size w (w.alloc (.cells #[.int .u16 0, .int .u16 0, .int .u16 0, .int .u16 0, .int .u16 0, .int .u16 0, .int .u16 0, .int .u16 0] 23))) := by
    show Below _ _ _
    exact (Below.refl _ _).alloc (Nat.le_refl _) _
  have HV := Lib.hid hv
  have hst : ∃ b0, s.toList.isEmpty = b0 ∧ ((b0 = false ∧ rd8 last [] s.data.toList = R) ∨ (b0 = true ∧ R = some [])) := by
    refine ⟨_, rfl, ?_⟩
    rw [ByteArray.toList_eq, ← hR]
    by_cases he : s.data.toList = []
    · right; rw [he]; exact ⟨rfl, rfl⟩
    · left; exact ⟨by rw [List.isEmpty_eq_false_iff]; exact he, (side8_some last he).symm⟩
  obtain ⟨b0, hE, hst⟩ := hst
  have HSt := Lib.hid hst
  clear hv hR hst
  go_enter Tryd.func18, Tryd.ntmps18
  go_wp2
  generalize (w.alloc (.cells #[.int .u16 0, .int .u16 0, .int .u16 0, .int .u16 0, .int .u16 0, .int .u16 0, .int .u16 0, .int .u16 0] 23)) = W at HRow HB2 ⊢
  obtain ⟨g, hg⟩ : ∃ g, w.heap.size = g := ⟨_, rfl⟩
  rw [hg] at HRow ⊢
  have HG := Lib.hid hg
  clear hg
  go_loopw [5, 7, 8] (fun v5 v7 v8 wr => ∃ (acc : List Nat) (t : ByteArray) (m : Bool), v5 = .int .i64 (acc.length : Nat) ∧ v7 = .string t ∧ v8 = .bool m ∧ acc.length ≤ 8 ∧ t.size ≤ 10000 ∧ Hid ((m = true ∧ rd8 last acc t.data.toList = R) ∨ (m = false ∧ R = some acc)) ∧ RowU 23 wr g (padN 8 acc) ∧ Below w.heap.size w wr) (fun _ v7 v8 _ => mea8 v7 v8)
  case atStart =>
    refine ⟨[], s, !b0, rfl, rfl, ?_, by decide, hs, ?_, HRow.out, HB2.out⟩
    · rfl
    · refine Lib.hid (HSt.out.elim (fun h => .inl ⟨by rw [h.1]; rfl, h.2⟩) (fun h => .inr ⟨by rw [h.1]; rfl, h.2⟩))
  case round =>
    obtain ⟨acc, t, m, rfl, rfl, rfl, h8, ht, hrd, hrow, hbw⟩ := hrel
    have hgl := hrow.lt
    have HGl : Hid (w.heap.size ≤ g) := Lib.hid (Nat.le_of_eq HG.out)
    obtain ⟨x0, x1, x2, x3, x4, x5, x6, x7, hpad⟩ := eight_of8 (padN_len h8)
    have HPad := Lib.hid hpad
    have HAt := Lib.hid (fun h => padN_at (N := 8) (ns := acc) (j := acc.length) h h8)
    rw [hpad] at hrow HAt
    have HRw := Lib.hid hrow
    have HBw := Lib.hid hbw
    have HVr := Lib.hid (HV.out.below hbw)
    clear hrow hbw hpad
    cases m with
    | false =>
      have HE : Hid (R = some acc) := hrd.out.elim (fun h => by cases h.1) (fun h => h.2)
      obtain ⟨c0, c1, c2, c3, c4, c5, c6, c7, f0, f1, f2, f3, f4, f5, f6, f7⟩ := rows8 HRw.out
      clear hrd
      go_wp2
      refine bodyPost_ret (read_res (put8_rows HRw.out rfl _ _ _ _ _ _ _ _) _ (.int .i64 (acc.length : Nat)) (.bool true) rfl rfl rfl) rfl ?_
      · exact rd_some HE.out HPad.out rfl (below_put8 HGl.out HBw.out _ _ _ _ _ _ _ _)
    | true =>
      have HE : Hid (rd8 last acc t.data.toList = R) := hrd.out.elim (fun h => h.2) (fun h => by cases h.1)
      clear hrd

      rcases cut_colon t.data.toList with ⟨hcut, hno⟩ | ⟨p, r, hcut, htp, hp⟩
      · have HCut : Hid (∀ w, V8 w → Calls Tryd.prog 17 #[.string t, .string ⟨#[58]⟩] w fun e w' => e = .returned (.tuple #[.string t, .string ⟨#[]⟩, .bool false]) ∧ Below w.heap.size w w') := fun w hv => cutAny8 t ⟨#[58]⟩ _ _ _ hcut w hv ht
        clear hcut
        cases last with
        | false =>
          cases hval : value8 t.data.toList with
          | none =>
            have HN : Hid (R = none) := HE.out.symm.trans ((rd8_end hno (.inl rfl)).trans (by rw [hval]))
            have HP := Lib.hid (fun w hv => piece_none hval w hv)
            clear hval
            go_wp2_with (first
              | (go_at_call 17; refine (HCut.out _ HVr.out).mono ?_; rintro e w3 ⟨rfl, hb⟩; have HB3 := Lib.hid (bnx8 HBw.out hb); have HV3 := Lib.hid (HVr.out.below hb); have HR3 := Lib.hid (HRw.out.below hb); clear hb)
              | (go_at_call 28; refine (HP.out _ HV3.out).mono ?_; rintro e w4 ⟨rfl, hb⟩; have HB4 := Lib.hid (bnx8 HB3.out hb); have HR4 := Lib.hid (HR3.out.below hb); have hgl4 := HR4.out.lt; obtain ⟨c0, c1, c2, c3, c4, c5, c6, c7, f0, f1, f2, f3, f4, f5, f6, f7⟩ := rows8 HR4.out; clear hb))
            refine bodyPost_ret (read_res (put8_rows HR4.out rfl _ _ _ _ _ _ _ _) _ (.int .i64 0) (.bool false) rfl rfl rfl) rfl ?_
            exact rd_none HN.out (below_put8 HGl.out HB4.out _ _ _ _ _ _ _ _)
          | some n =>
            have HP := Lib.hid (piece_some hval)
            by_cases hfull : acc.length = 8
            · have HN : Hid (R = none) := HE.out.symm.trans ((rd8_end hno (.inl rfl)).trans (by rw [hval]; exact if_neg (by omega)))
              have hfi : ((acc.length : Int) == 8) = true := beq_iff_eq.2 (by omega)
              clear hval
              go_wp2_with (first
                | (go_at_call 17; refine (HCut.out _ HVr.out).mono ?_; rintro e w3 ⟨rfl, hb⟩; have HB3 := Lib.hid (bnx8 HBw.out hb); have HV3 := Lib.hid (HVr.out.below hb); have HR3 := Lib.hid (HRw.out.below hb); clear hb)
                | (go_at_call 28; refine (HP.out _).mono ?_; rintro e w4 ⟨rfl, hb⟩; have HB4 := Lib.hid (bnx8 HB3.out hb); have HR4 := Lib.hid (HR3.out.below hb); have hgl4 := HR4.out.lt; obtain ⟨c0, c1, c2, c3, c4, c5, c6, c7, f0, f1, f2, f3, f4, f5, f6, f7⟩ := rows8 HR4.out; clear hb))
              refine bodyPost_ret (read_res (put8_rows HR4.out rfl _ _ _ _ _ _ _ _) _ (.int .i64 0) (.bool false) rfl rfl rfl) rfl ?_
              exact rd_none HN.out (below_put8 HGl.out HB4.out _ _ _ _ _ _ _ _)
            · have HS : Hid (R = some (acc ++ [n])) := HE.out.symm.trans ((rd8_end hno (.inl rfl)).trans (by rw [hval]; exact if_pos (by omega)))
              have hfi : ((acc.length : Int) == 8) = false := beq_eq_false_iff_ne.2 (by omega)
              have hlt8 : acc.length < 8 := by omega
              have hn6 := value8_lt hval
              clear hval
              go_wp2_with (first
                | (go_at_call 17; refine (HCut.out _ HVr.out).mono ?_; rintro e w3 ⟨rfl, hb⟩; have HB3 := Lib.hid (bnx8 HBw.out hb); have HV3 := Lib.hid (HVr.out.below hb); have HR3 := Lib.hid (HRw.out.below hb); clear hb)
                | (go_at_call 28; refine (HP.out _).mono ?_; rintro e w4 ⟨rfl, hb⟩; have HB4 := Lib.hid (bnx8 HB3.out hb); have HR4 := Lib.hid (HR3.out.below hb); have hgl4 := HR4.out.lt; obtain ⟨hcell, hfz⟩ := HR4.out.at (HAt.out (by omega)); clear hb))
              go_roundw
              case rel => exact ⟨acc ++ [n], ⟨#[]⟩, false, congrArg (Value.int .i64) (by rw [List.length_append, List.length_singleton]; omega), rfl, rfl, by simp; omega, by decide, Lib.hid (.inr ⟨rfl, HS.out⟩), by have := HR4.out.put acc.length n; rw [← HPad.out, padN_set hlt8] at this; exact this, HB4.out.setCell HGl.out _⟩
              case measure => exact Nat.succ_pos _
        | true =>
          by_cases hd : 46 ∈ t.data.toList
          · have HCon : Hid (∀ w, Calls Tryd.prog 26 #[.string t, .string ⟨#[46]⟩] w fun e w' => e = .returned (.bool true) ∧ w = w') := fun w => dotAny8 t true (decide_eq_true hd) w
            cases hq : quad8 t.data.toList with
            | none =>
              have HN : Hid (R = none) := HE.out.symm.trans ((rd8_end_quad hno hd).trans (by rw [hq]))
              have HQ := Lib.hid (fun w hv => quad_any t ht w hv none hq)
              clear hd hno hq
              go_wp2_with (first
                | (go_at_call 17; refine (HCut.out _ HVr.out).mono ?_; rintro e w3 ⟨rfl, hb⟩; have HB3 := Lib.hid (bnx8 HBw.out hb); have HV3 := Lib.hid (HVr.out.below hb); have HR3 := Lib.hid (HRw.out.below hb); clear hb)
                | (go_at_call 26; refine (HCon.out _).mono ?_; rintro e w9 ⟨rfl, rfl⟩)
                | (go_at_call 27; refine (HQ.out _ HV3.out).mono ?_; unfold QOut; rintro e w4 ⟨rfl, hb⟩; have HB4 := Lib.hid (bnx8 HB3.out hb); have HR4 := Lib.hid (HR3.out.below hb); have hgl4 := HR4.out.lt; obtain ⟨c0, c1, c2, c3, c4, c5, c6, c7, f0, f1, f2, f3, f4, f5, f6, f7⟩ := rows8 HR4.out; clear hb))
              refine bodyPost_ret (read_res (put8_rows HR4.out rfl _ _ _ _ _ _ _ _) _ (.int .i64 0) (.bool false) rfl rfl rfl) rfl ?_
              exact rd_none HN.out (below_put8 HGl.out HB4.out _ _ _ _ _ _ _ _)
            | some q =>
              obtain ⟨x, y⟩ := q
              have HQ := Lib.hid (fun w hv => quad_any t ht w hv _ hq)
              have hxy := quad8_lt hq
              by_cases hroom : acc.length + 2 ≤ 8
              · have HN : Hid (R = some (acc ++ [x, y])) := HE.out.symm.trans ((rd8_end_quad hno hd).trans (by rw [hq]; exact if_pos hroom))
                clear hd hno hq
                rcases short7 hroom with rfl | ⟨a0, rfl⟩ | ⟨a0, a1, rfl⟩ | ⟨a0, a1, a2, rfl⟩ | ⟨a0, a1, a2, a3, rfl⟩ | ⟨a0, a1, a2, a3, a4, rfl⟩ | ⟨a0, a1, a2, a3, a4, a5, rfl⟩
                · have HRw : Hid (RowU 23 wr g [0, 0, 0, 0, 0, 0, 0, 0]) := by
                    show RowU _ _ _ _
                    have h := HRw.out
                    rw [← HPad.out] at h
                    exact h
                  rw [show ((([] : List Nat).length : Nat) : Int) = 0 from rfl]
                  clear hroom HAt
                  go_wp2_with (first
                    | (go_at_call 17; refine (HCut.out _ HVr.out).mono ?_; rintro e w3 ⟨rfl, hb⟩; have HB3 := Lib.hid (bnx8 HBw.out hb); have HV3 := Lib.hid (HVr.out.below hb); have HR3 := Lib.hid (HRw.out.below hb); clear hb)
                    | (go_at_call 26; refine (HCon.out _).mono ?_; rintro e w9 ⟨rfl, rfl⟩)
                    | (go_at_call 27; refine (HQ.out _ HV3.out).mono ?_; unfold QOut; rintro e w4 ⟨rfl, hb⟩; have HB4 := Lib.hid (bnx8 HB3.out hb); have HR4 := Lib.hid (HR3.out.below hb); have hgl4 := HR4.out.lt; obtain ⟨c0, c1, c2, c3, c4, c5, c6, c7, f0, f1, f2, f3, f4, f5, f6, f7⟩ := rows8 HR4.out; clear hb))
                  refine bodyPost_ret (read_res (put8_rows ((HR4.out.put 0 x).put 1 y) rfl x y 0 0 0 0 0 0) _ (.int .i64 2) (.bool true) rfl rfl rfl) rfl ?_
                  exact rd_some HN.out rfl rfl (below_put8 HGl.out ((HB4.out.setCell HGl.out _).setCell HGl.out _) _ _ _ _ _ _ _ _)
                · have HRw : Hid (RowU 23 wr g [a0, 0, 0, 0, 0, 0, 0, 0]) := by
                    show RowU _ _ _ _
                    have h := HRw.out
                    rw [← HPad.out] at h
                    exact h
                  rw [show ((([a0] : List Nat).length : Nat) : Int) = 1 from rfl]
                  clear hroom HAt
                  go_wp2_with (first
                    | (go_at_call 17; refine (HCut.out _ HVr.out).mono ?_; rintro e w3 ⟨rfl, hb⟩; have HB3 := Lib.hid (bnx8 HBw.out hb); have HV3 := Lib.hid (HVr.out.below hb); have HR3 := Lib.hid (HRw.out.below hb); clear hb)
                    | (go_at_call 26; refine (HCon.out _).mono ?_; rintro e w9 ⟨rfl, rfl⟩)
                    | (go_at_call 27; refine (HQ.out _ HV3.out).mono ?_; unfold QOut; rintro e w4 ⟨rfl, hb⟩; have HB4 := Lib.hid (bnx8 HB3.out hb); have HR4 := Lib.hid (HR3.out.below hb); have hgl4 := HR4.out.lt; obtain ⟨c0, c1, c2, c3, c4, c5, c6, c7, f0, f1, f2, f3, f4, f5, f6, f7⟩ := rows8 HR4.out; clear hb))
                  refine bodyPost_ret (read_res (put8_rows ((HR4.out.put 1 x).put 2 y) rfl a0 x y 0 0 0 0 0) _ (.int .i64 3) (.bool true) rfl rfl rfl) rfl ?_
                  exact rd_some HN.out rfl rfl (below_put8 HGl.out ((HB4.out.setCell HGl.out _).setCell HGl.out _) _ _ _ _ _ _ _ _)
                · have HRw : Hid (RowU 23 wr g [a0, a1, 0, 0, 0, 0, 0, 0]) := by
                    show RowU _ _ _ _
                    have h := HRw.out
                    rw [← HPad.out] at h
                    exact h
                  rw [show ((([a0, a1] : List Nat).length : Nat) : Int) = 2 from rfl]
                  clear hroom HAt
                  go_wp2_with (first
                    | (go_at_call 17; refine (HCut.out _ HVr.out).mono ?_; rintro e w3 ⟨rfl, hb⟩; have HB3 := Lib.hid (bnx8 HBw.out hb); have HV3 := Lib.hid (HVr.out.below hb); have HR3 := Lib.hid (HRw.out.below hb); clear hb)
                    | (go_at_call 26; refine (HCon.out _).mono ?_; rintro e w9 ⟨rfl, rfl⟩)
                    | (go_at_call 27; refine (HQ.out _ HV3.out).mono ?_; unfold QOut; rintro e w4 ⟨rfl, hb⟩; have HB4 := Lib.hid (bnx8 HB3.out hb); have HR4 := Lib.hid (HR3.out.below hb); have hgl4 := HR4.out.lt; obtain ⟨c0, c1, c2, c3, c4, c5, c6, c7, f0, f1, f2, f3, f4, f5, f6, f7⟩ := rows8 HR4.out; clear hb))
                  refine bodyPost_ret (read_res (put8_rows ((HR4.out.put 2 x).put 3 y) rfl a0 a1 x y 0 0 0 0) _ (.int .i64 4) (.bool true) rfl rfl rfl) rfl ?_
                  exact rd_some HN.out rfl rfl (below_put8 HGl.out ((HB4.out.setCell HGl.out _).setCell HGl.out _) _ _ _ _ _ _ _ _)
                · have HRw : Hid (RowU 23 wr g [a0, a1, a2, 0, 0, 0, 0, 0]) := by
                    show RowU _ _ _ _
                    have h := HRw.out
                    rw [← HPad.out] at h
                    exact h
                  rw [show ((([a0, a1, a2] : List Nat).length : Nat) : Int) = 3 from rfl]
                  clear hroom HAt
                  go_wp2_with (first
                    | (go_at_call 17; refine (HCut.out _ HVr.out).mono ?_; rintro e w3 ⟨rfl, hb⟩; have HB3 := Lib.hid (bnx8 HBw.out hb); have HV3 := Lib.hid (HVr.out.below hb); have HR3 := Lib.hid (HRw.out.below hb); clear hb)
                    | (go_at_call 26; refine (HCon.out _).mono ?_; rintro e w9 ⟨rfl, rfl⟩)
                    | (go_at_call 27; refine (HQ.out _ HV3.out).mono ?_; unfold QOut; rintro e w4 ⟨rfl, hb⟩; have HB4 := Lib.hid (bnx8 HB3.out hb); have HR4 := Lib.hid (HR3.out.below hb); have hgl4 := HR4.out.lt; obtain ⟨c0, c1, c2, c3, c4, c5, c6, c7, f0, f1, f2, f3, f4, f5, f6, f7⟩ := rows8 HR4.out; clear hb))
                  refine bodyPost_ret (read_res (put8_rows ((HR4.out.put 3 x).put 4 y) rfl a0 a1 a2 x y 0 0 0) _ (.int .i64 5) (.bool true) rfl rfl rfl) rfl ?_
                  exact rd_some HN.out rfl rfl (below_put8 HGl.out ((HB4.out.setCell HGl.out _).setCell HGl.out _) _ _ _ _ _ _ _ _)
                · have HRw : Hid (RowU 23 wr g [a0, a1, a2, a3, 0, 0, 0, 0]) := by
                    show RowU _ _ _ _
                    have h := HRw.out
                    rw [← HPad.out] at h
                    exact h
                  rw [show ((([a0, a1, a2, a3] : List Nat).length : Nat) : Int) = 4 from rfl]
                  clear hroom HAt
                  go_wp2_with (first
                    | (go_at_call 17; refine (HCut.out _ HVr.out).mono ?_; rintro e w3 ⟨rfl, hb⟩; have HB3 := Lib.hid (bnx8 HBw.out hb); have HV3 := Lib.hid (HVr.out.below hb); have HR3 := Lib.hid (HRw.out.below hb); clear hb)
                    | (go_at_call 26; refine (HCon.out _).mono ?_; rintro e w9 ⟨rfl, rfl⟩)
                    | (go_at_call 27; refine (HQ.out _ HV3.out).mono ?_; unfold QOut; rintro e w4 ⟨rfl, hb⟩; have HB4 := Lib.hid (bnx8 HB3.out hb); have HR4 := Lib.hid (HR3.out.below hb); have hgl4 := HR4.out.lt; obtain ⟨c0, c1, c2, c3, c4, c5, c6, c7, f0, f1, f2, f3, f4, f5, f6, f7⟩ := rows8 HR4.out; clear hb))
                  refine bodyPost_ret (read_res (put8_rows ((HR4.out.put 4 x).put 5 y) rfl a0 a1 a2 a3 x y 0 0) _ (.int .i64 6) (.bool true) rfl rfl rfl) rfl ?_
                  exact rd_some HN.out rfl rfl (below_put8 HGl.out ((HB4.out.setCell HGl.out _).setCell HGl.out _) _ _ _ _ _ _ _ _)
                · have HRw : Hid (RowU 23 wr g [a0, a1, a2, a3, a4, 0, 0, 0]) := by
                    show RowU _ _ _ _
                    have h := HRw.out
                    rw [← HPad.out] at h
                    exact h
                  rw [show ((([a0, a1, a2, a3, a4] : List Nat).length : Nat) : Int) = 5 from rfl]
                  clear hroom HAt
                  go_wp2_with (first
                    | (go_at_call 17; refine (HCut.out _ HVr.out).mono ?_; rintro e w3 ⟨rfl, hb⟩; have HB3 := Lib.hid (bnx8 HBw.out hb); have HV3 := Lib.hid (HVr.out.below hb); have HR3 := Lib.hid (HRw.out.below hb); clear hb)
                    | (go_at_call 26; refine (HCon.out _).mono ?_; rintro e w9 ⟨rfl, rfl⟩)
                    | (go_at_call 27; refine (HQ.out _ HV3.out).mono ?_; unfold QOut; rintro e w4 ⟨rfl, hb⟩; have HB4 := Lib.hid (bnx8 HB3.out hb); have HR4 := Lib.hid (HR3.out.below hb); have hgl4 := HR4.out.lt; obtain ⟨c0, c1, c2, c3, c4, c5, c6, c7, f0, f1, f2, f3, f4, f5, f6, f7⟩ := rows8 HR4.out; clear hb))
                  refine bodyPost_ret (read_res (put8_rows ((HR4.out.put 5 x).put 6 y) rfl a0 a1 a2 a3 a4 x y 0) _ (.int .i64 7) (.bool true) rfl rfl rfl) rfl ?_
                  exact rd_some HN.out rfl rfl (below_put8 HGl.out ((HB4.out.setCell HGl.out _).setCell HGl.out _) _ _ _ _ _ _ _ _)
                · have HRw : Hid (RowU 23 wr g [a0, a1, a2, a3, a4, a5, 0, 0]) := by
                    show RowU _ _ _ _
                    have h := HRw.out
                    rw [← HPad.out] at h
                    exact h
                  rw [show ((([a0, a1, a2, a3, a4, a5] : List Nat).length : Nat) : Int) = 6 from rfl]
                  clear hroom HAt
                  go_wp2_with (first
                    | (go_at_call 17; refine (HCut.out _ HVr.out).mono ?_; rintro e w3 ⟨rfl, hb⟩; have HB3 := Lib.hid (bnx8 HBw.out hb); have HV3 := Lib.hid (HVr.out.below hb); have HR3 := Lib.hid (HRw.out.below hb); clear hb)
                    | (go_at_call 26; refine (HCon.out _).mono ?_; rintro e w9 ⟨rfl, rfl⟩)
                    | (go_at_call 27; refine (HQ.out _ HV3.out).mono ?_; unfold QOut; rintro e w4 ⟨rfl, hb⟩; have HB4 := Lib.hid (bnx8 HB3.out hb); have HR4 := Lib.hid (HR3.out.below hb); have hgl4 := HR4.out.lt; obtain ⟨c0, c1, c2, c3, c4, c5, c6, c7, f0, f1, f2, f3, f4, f5, f6, f7⟩ := rows8 HR4.out; clear hb))
                  refine bodyPost_ret (read_res (put8_rows ((HR4.out.put 6 x).put 7 y) rfl a0 a1 a2 a3 a4 a5 x y) _ (.int .i64 8) (.bool true) rfl rfl rfl) rfl ?_
                  exact rd_some HN.out rfl rfl (below_put8 HGl.out ((HB4.out.setCell HGl.out _).setCell HGl.out _) _ _ _ _ _ _ _ _)
              · have HN : Hid (R = none) := HE.out.symm.trans ((rd8_end_quad hno hd).trans (by rw [hq]; exact if_neg hroom))
                have hri : (8 : Int) < (acc.length : Int) + 2 := by omega
                clear hd hno hq
                go_wp2_with (first
                  | (go_at_call 17; refine (HCut.out _ HVr.out).mono ?_; rintro e w3 ⟨rfl, hb⟩; have HB3 := Lib.hid (bnx8 HBw.out hb); have HV3 := Lib.hid (HVr.out.below hb); have HR3 := Lib.hid (HRw.out.below hb); clear hb)
                  | (go_at_call 26; refine (HCon.out _).mono ?_; rintro e w9 ⟨rfl, rfl⟩)
                  | (go_at_call 27; refine (HQ.out _ HV3.out).mono ?_; unfold QOut; rintro e w4 ⟨rfl, hb⟩; have HB4 := Lib.hid (bnx8 HB3.out hb); have HR4 := Lib.hid (HR3.out.below hb); have hgl4 := HR4.out.lt; obtain ⟨c0, c1, c2, c3, c4, c5, c6, c7, f0, f1, f2, f3, f4, f5, f6, f7⟩ := rows8 HR4.out; clear hb))
                refine bodyPost_ret (read_res (put8_rows HR4.out rfl _ _ _ _ _ _ _ _) _ (.int .i64 0) (.bool false) rfl rfl rfl) rfl ?_
                exact rd_none HN.out (below_put8 HGl.out HB4.out _ _ _ _ _ _ _ _)
          · have HCon : Hid (∀ w, Calls Tryd.prog 26 #[.string t, .string ⟨#[46]⟩] w fun e w' => e = .returned (.bool false) ∧ w = w') := fun w => dotAny8 t false (decide_eq_false hd) w
            cases hval : value8 t.data.toList with
            | none =>
              have HN : Hid (R = none) := HE.out.symm.trans ((rd8_end hno (.inr hd)).trans (by rw [hval]))
              have HP := Lib.hid (fun w hv => piece_none hval w hv)
              clear hval
              go_wp2_with (first
                | (go_at_call 17; refine (HCut.out _ HVr.out).mono ?_; rintro e w3 ⟨rfl, hb⟩; have HB3 := Lib.hid (bnx8 HBw.out hb); have HV3 := Lib.hid (HVr.out.below hb); have HR3 := Lib.hid (HRw.out.below hb); clear hb)
                | (go_at_call 26; refine (HCon.out _).mono ?_; rintro e w9 ⟨rfl, rfl⟩)
                | (go_at_call 28; refine (HP.out _ HV3.out).mono ?_; rintro e w4 ⟨rfl, hb⟩; have HB4 := Lib.hid (bnx8 HB3.out hb); have HR4 := Lib.hid (HR3.out.below hb); have hgl4 := HR4.out.lt; obtain ⟨c0, c1, c2, c3, c4, c5, c6, c7, f0, f1, f2, f3, f4, f5, f6, f7⟩ := rows8 HR4.out; clear hb))
              refine bodyPost_ret (read_res (put8_rows HR4.out rfl _ _ _ _ _ _ _ _) _ (.int .i64 0) (.bool false) rfl rfl rfl) rfl ?_
              exact rd_none HN.out (below_put8 HGl.out HB4.out _ _ _ _ _ _ _ _)
            | some n =>
              have HP := Lib.hid (piece_some hval)
              by_cases hfull : acc.length = 8
              · have HN : Hid (R = none) := HE.out.symm.trans ((rd8_end hno (.inr hd)).trans (by rw [hval]; exact if_neg (by omega)))
                have hfi : ((acc.length : Int) == 8) = true := beq_iff_eq.2 (by omega)
                clear hval
                go_wp2_with (first
                  | (go_at_call 17; refine (HCut.out _ HVr.out).mono ?_; rintro e w3 ⟨rfl, hb⟩; have HB3 := Lib.hid (bnx8 HBw.out hb); have HV3 := Lib.hid (HVr.out.below hb); have HR3 := Lib.hid (HRw.out.below hb); clear hb)
                  | (go_at_call 26; refine (HCon.out _).mono ?_; rintro e w9 ⟨rfl, rfl⟩)
                  | (go_at_call 28; refine (HP.out _).mono ?_; rintro e w4 ⟨rfl, hb⟩; have HB4 := Lib.hid (bnx8 HB3.out hb); have HR4 := Lib.hid (HR3.out.below hb); have hgl4 := HR4.out.lt; obtain ⟨c0, c1, c2, c3, c4, c5, c6, c7, f0, f1, f2, f3, f4, f5, f6, f7⟩ := rows8 HR4.out; clear hb))
                refine bodyPost_ret (read_res (put8_rows HR4.out rfl _ _ _ _ _ _ _ _) _ (.int .i64 0) (.bool false) rfl rfl rfl) rfl ?_
                exact rd_none HN.out (below_put8 HGl.out HB4.out _ _ _ _ _ _ _ _)
              · have HS : Hid (R = some (acc ++ [n])) := HE.out.symm.trans ((rd8_end hno (.inr hd)).trans (by rw [hval]; exact if_pos (by omega)))
                have hfi : ((acc.length : Int) == 8) = false := beq_eq_false_iff_ne.2 (by omega)
                have hlt8 : acc.length < 8 := by omega
                have hn6 := value8_lt hval
                clear hval
                go_wp2_with (first
                  | (go_at_call 17; refine (HCut.out _ HVr.out).mono ?_; rintro e w3 ⟨rfl, hb⟩; have HB3 := Lib.hid (bnx8 HBw.out hb); have HV3 := Lib.hid (HVr.out.below hb); have HR3 := Lib.hid (HRw.out.below hb); clear hb)
                  | (go_at_call 26; refine (HCon.out _).mono ?_; rintro e w9 ⟨rfl, rfl⟩)
                  | (go_at_call 28; refine (HP.out _).mono ?_; rintro e w4 ⟨rfl, hb⟩; have HB4 := Lib.hid (bnx8 HB3.out hb); have HR4 := Lib.hid (HR3.out.below hb); have hgl4 := HR4.out.lt; obtain ⟨hcell, hfz⟩ := HR4.out.at (HAt.out (by omega)); clear hb))
                go_roundw
                case rel => exact ⟨acc ++ [n], ⟨#[]⟩, false, congrArg (Value.int .i64) (by rw [List.length_append, List.length_singleton]; omega), rfl, rfl, by simp; omega, by decide, Lib.hid (.inr ⟨rfl, HS.out⟩), by have := HR4.out.put acc.length n; rw [← HPad.out, padN_set hlt8] at this; exact this, HB4.out.setCell HGl.out _⟩
                case measure => exact Nat.succ_pos _
      · have HCut : Hid (∀ w, V8 w → Calls Tryd.prog 17 #[.string t, .string ⟨#[58]⟩] w fun e w' => e = .returned (.tuple #[.string (btx p), .string (btx r), .bool true]) ∧ Below w.heap.size w w') := fun w hv => cutAny8 t ⟨#[58]⟩ _ _ _ hcut w hv ht
        have hrs : (btx r).size < t.size := by
          have h1 : t.data.toList.length = t.size := by simp
          rw [htp] at h1
          rw [btx_size]
          simp at h1
          omega
        clear hcut
        cases last with
        | false =>
          cases hval : value8 (btx p).data.toList with
          | none =>
            have HN : Hid (R = none) := HE.out.symm.trans (rd8_bad hp htp hval)
            have HP := Lib.hid (fun w hv => piece_none hval w hv)
            clear hval
            go_wp2_with (first
              | (go_at_call 17; refine (HCut.out _ HVr.out).mono ?_; rintro e w3 ⟨rfl, hb⟩; have HB3 := Lib.hid (bnx8 HBw.out hb); have HV3 := Lib.hid (HVr.out.below hb); have HR3 := Lib.hid (HRw.out.below hb); clear hb)
              | (go_at_call 28; refine (HP.out _ HV3.out).mono ?_; rintro e w4 ⟨rfl, hb⟩; have HB4 := Lib.hid (bnx8 HB3.out hb); have HR4 := Lib.hid (HR3.out.below hb); have hgl4 := HR4.out.lt; obtain ⟨c0, c1, c2, c3, c4, c5, c6, c7, f0, f1, f2, f3, f4, f5, f6, f7⟩ := rows8 HR4.out; clear hb))
            refine bodyPost_ret (read_res (put8_rows HR4.out rfl _ _ _ _ _ _ _ _) _ (.int .i64 0) (.bool false) rfl rfl rfl) rfl ?_
            exact rd_none HN.out (below_put8 HGl.out HB4.out _ _ _ _ _ _ _ _)
          | some n =>
            have HP := Lib.hid (piece_some hval)
            by_cases hfull : acc.length = 8
            · have HN : Hid (R = none) := HE.out.symm.trans (rd8_full hp htp hfull)
              have hfi : ((acc.length : Int) == 8) = true := beq_iff_eq.2 (by omega)
              clear hval
              go_wp2_with (first
                | (go_at_call 17; refine (HCut.out _ HVr.out).mono ?_; rintro e w3 ⟨rfl, hb⟩; have HB3 := Lib.hid (bnx8 HBw.out hb); have HV3 := Lib.hid (HVr.out.below hb); have HR3 := Lib.hid (HRw.out.below hb); clear hb)
                | (go_at_call 28; refine (HP.out _).mono ?_; rintro e w4 ⟨rfl, hb⟩; have HB4 := Lib.hid (bnx8 HB3.out hb); have HR4 := Lib.hid (HR3.out.below hb); have hgl4 := HR4.out.lt; obtain ⟨c0, c1, c2, c3, c4, c5, c6, c7, f0, f1, f2, f3, f4, f5, f6, f7⟩ := rows8 HR4.out; clear hb))
              refine bodyPost_ret (read_res (put8_rows HR4.out rfl _ _ _ _ _ _ _ _) _ (.int .i64 0) (.bool false) rfl rfl rfl) rfl ?_
              exact rd_none HN.out (below_put8 HGl.out HB4.out _ _ _ _ _ _ _ _)
            · have HS : Hid (rd8 _ (acc ++ [n]) r = R) := (rd8_step hp htp hval).symm.trans HE.out
              have hfi : ((acc.length : Int) == 8) = false := beq_eq_false_iff_ne.2 (by omega)
              have hlt8 : acc.length < 8 := by omega
              have hn6 := value8_lt hval
              clear hval
              go_wp2_with (first
                | (go_at_call 17; refine (HCut.out _ HVr.out).mono ?_; rintro e w3 ⟨rfl, hb⟩; have HB3 := Lib.hid (bnx8 HBw.out hb); have HV3 := Lib.hid (HVr.out.below hb); have HR3 := Lib.hid (HRw.out.below hb); clear hb)
                | (go_at_call 28; refine (HP.out _).mono ?_; rintro e w4 ⟨rfl, hb⟩; have HB4 := Lib.hid (bnx8 HB3.out hb); have HR4 := Lib.hid (HR3.out.below hb); have hgl4 := HR4.out.lt; obtain ⟨hcell, hfz⟩ := HR4.out.at (HAt.out (by omega)); clear hb))
              go_roundw
              case rel => exact ⟨acc ++ [n], btx r, true, congrArg (Value.int .i64) (by rw [List.length_append, List.length_singleton]; omega), rfl, rfl, by simp; omega, by omega, Lib.hid (.inl ⟨rfl, HS.out⟩), by have := HR4.out.put acc.length n; rw [← HPad.out, padN_set hlt8] at this; exact this, HB4.out.setCell HGl.out _⟩
              case measure => exact Nat.succ_lt_succ hrs
        | true =>
          cases hval : value8 (btx p).data.toList with
          | none =>
            have HN : Hid (R = none) := HE.out.symm.trans (rd8_bad hp htp hval)
            have HP := Lib.hid (fun w hv => piece_none hval w hv)
            clear hval
            go_wp2_with (first
              | (go_at_call 17; refine (HCut.out _ HVr.out).mono ?_; rintro e w3 ⟨rfl, hb⟩; have HB3 := Lib.hid (bnx8 HBw.out hb); have HV3 := Lib.hid (HVr.out.below hb); have HR3 := Lib.hid (HRw.out.below hb); clear hb)
              | (go_at_call 28; refine (HP.out _ HV3.out).mono ?_; rintro e w4 ⟨rfl, hb⟩; have HB4 := Lib.hid (bnx8 HB3.out hb); have HR4 := Lib.hid (HR3.out.below hb); have hgl4 := HR4.out.lt; obtain ⟨c0, c1, c2, c3, c4, c5, c6, c7, f0, f1, f2, f3, f4, f5, f6, f7⟩ := rows8 HR4.out; clear hb))
            refine bodyPost_ret (read_res (put8_rows HR4.out rfl _ _ _ _ _ _ _ _) _ (.int .i64 0) (.bool false) rfl rfl rfl) rfl ?_
            exact rd_none HN.out (below_put8 HGl.out HB4.out _ _ _ _ _ _ _ _)
          | some n =>
            have HP := Lib.hid (piece_some hval)
            by_cases hfull : acc.length = 8
            · have HN : Hid (R = none) := HE.out.symm.trans (rd8_full hp htp hfull)
              have hfi : ((acc.length : Int) == 8) = true := beq_iff_eq.2 (by omega)
              clear hval
              go_wp2_with (first
                | (go_at_call 17; refine (HCut.out _ HVr.out).mono ?_; rintro e w3 ⟨rfl, hb⟩; have HB3 := Lib.hid (bnx8 HBw.out hb); have HV3 := Lib.hid (HVr.out.below hb); have HR3 := Lib.hid (HRw.out.below hb); clear hb)
                | (go_at_call 28; refine (HP.out _).mono ?_; rintro e w4 ⟨rfl, hb⟩; have HB4 := Lib.hid (bnx8 HB3.out hb); have HR4 := Lib.hid (HR3.out.below hb); have hgl4 := HR4.out.lt; obtain ⟨c0, c1, c2, c3, c4, c5, c6, c7, f0, f1, f2, f3, f4, f5, f6, f7⟩ := rows8 HR4.out; clear hb))
              refine bodyPost_ret (read_res (put8_rows HR4.out rfl _ _ _ _ _ _ _ _) _ (.int .i64 0) (.bool false) rfl rfl rfl) rfl ?_
              exact rd_none HN.out (below_put8 HGl.out HB4.out _ _ _ _ _ _ _ _)
            · have HS : Hid (rd8 _ (acc ++ [n]) r = R) := (rd8_step hp htp hval).symm.trans HE.out
              have hfi : ((acc.length : Int) == 8) = false := beq_eq_false_iff_ne.2 (by omega)
              have hlt8 : acc.length < 8 := by omega
              have hn6 := value8_lt hval
              clear hval
              go_wp2_with (first
                | (go_at_call 17; refine (HCut.out _ HVr.out).mono ?_; rintro e w3 ⟨rfl, hb⟩; have HB3 := Lib.hid (bnx8 HBw.out hb); have HV3 := Lib.hid (HVr.out.below hb); have HR3 := Lib.hid (HRw.out.below hb); clear hb)
                | (go_at_call 28; refine (HP.out _).mono ?_; rintro e w4 ⟨rfl, hb⟩; have HB4 := Lib.hid (bnx8 HB3.out hb); have HR4 := Lib.hid (HR3.out.below hb); have hgl4 := HR4.out.lt; obtain ⟨hcell, hfz⟩ := HR4.out.at (HAt.out (by omega)); clear hb))
              go_roundw
              case rel => exact ⟨acc ++ [n], btx r, true, congrArg (Value.int .i64) (by rw [List.length_append, List.length_singleton]; omega), rfl, rfl, by simp; omega, by omega, Lib.hid (.inl ⟨rfl, HS.out⟩), by have := HR4.out.put acc.length n; rw [← HPad.out, padN_set hlt8] at this; exact this, HB4.out.setCell HGl.out _⟩
              case measure => exact Nat.succ_lt_succ hrs
end Go.Proofs.YtfodkkdggajjaaaDoor

/-
  The document's Parse of layer 8 with a pair of colons; all of it.
-/
namespace Go.Proofs.YtfodkkdggajjaaaDoor
open Go.RowKit

theorem colons8_le {l : List UInt8} {k : Nat} (h : colons8 l = some k) : k + 2 ≤ l.length := by
  induction l generalizing k with
  | nil => cases h
  | cons a t ih =>
    cases t with
    | nil => cases h
    | cons b t =>
      unfold colons8 at h
      split at h
      · cases h; simp
      · obtain ⟨m, hm, rfl⟩ := Option.map_eq_some_iff.1 h
        have := ih hm
        simp only [List.length_cons] at this ⊢
        omega
theorem set_step9 {l z : List Nat} {i x : Nat} (hz : l.length ≤ z.length) (hx : l[i]? = some x) : (l.take i ++ z.drop i).set i x = l.take (i + 1) ++ z.drop (i + 1) := by
  obtain ⟨hi2, hx2⟩ := List.getElem?_eq_some_iff.1 hx
  have h1 : (l.take i).length = i := by rw [List.length_take]; omega
  rw [List.set_append_right _ _ (by omega), h1, Nat.sub_self, List.drop_eq_getElem_cons (by omega), List.set_cons_zero, List.take_succ_eq_append_getElem hi2, hx2]
  simp
theorem set_step10 {P b z : List Nat} {i x m : Nat} (hm : m = P.length + i) (hz : b.length ≤ z.length) (hx : b[i]? = some x) : (P ++ (b.take i ++ z.drop i)).set m x = P ++ (b.take (i + 1) ++ z.drop (i + 1)) := by
  rw [hm, List.set_append_right _ _ (by omega), Nat.add_sub_cancel_left, set_step9 hz hx]
theorem fill_part {a b : List Nat} (h : a.length + b.length ≤ 7) : (a ++ zero8.drop a.length).take (8 - b.length) = a ++ List.replicate (8 - a.length - b.length) 0 := by
  have hz : zero8 = List.replicate 8 0 := rfl
  rw [hz, List.drop_replicate, List.take_append, List.take_of_length_le (by omega), List.take_replicate]
  congr 2
  omega
theorem ext_head (s : ByteArray) (k : Nat) : (s.extract 0 k).data.toList = s.data.toList.take k := by
  rw [extract_btx]
  show (s.data.toList.drop 0).take (k - 0) = _
  simp
theorem ext_tail (s : ByteArray) (k : Nat) : (s.extract k s.size).data.toList = s.data.toList.drop k := by
  rw [extract_btx]
  show (s.data.toList.drop k).take (s.size - k) = _
  exact List.take_of_length_le (by rw [List.length_drop]; simp)
theorem ext_size (s : ByteArray) (a b : Nat) (h : s.size ≤ 4000) : (s.extract a b).size ≤ 4000 := by
  rw [extract_btx, btx_size, List.length_take, List.length_drop]
  have : s.data.toList.length = s.size := by simp
  omega

end Go.Proofs.YtfodkkdggajjaaaDoor

/-
  The document's Parse of layer 8: an address with a pair of colons; all of it.
-/
namespace Go.Proofs.YtfodkkdggajjaaaDoor
open Go.RowKit

theorem fill_len {a b : List Nat} (h : a.length + b.length ≤ 7) : (fill8 a b).length = 8 := by unfold fill8; simp; omega

theorem pieces8_len (last : Bool) : ∀ (ps : List (List UInt8)) (l : List Nat), pieces8 last ps = some l → l.length ≤ ps.length + 1 := by
  intro ps
  induction ps with
  | nil => intro l h; cases h; simp
  | cons p ps ih =>
    intro l h
    cases ps with
    | nil =>
      unfold pieces8 at h
      split at h
      · cases h; simp
      · obtain ⟨n, hn, rfl⟩ := Option.map_eq_some_iff.1 h; simp
    | cons q ps =>
      unfold pieces8 at h
      split at h
      · rename_i n ns hn hns
        cases h
        have := ih _ hns
        simp only [List.length_cons] at this ⊢
        omega
      · cases h
theorem list8_len {s : List UInt8} {last : Bool} {l : List Nat} (h : list8 s last = some l) (hs : s.length ≤ 4000) : l.length ≤ 10000 := by
  unfold list8 at h
  split at h
  · cases h; simp
  · have h1 := pieces8_len last _ _ h
    have h2 := cut7_length 58 s
    omega
end Go.Proofs.YtfodkkdggajjaaaDoor

/-
  The small functions of package fail and of the document's answers, by their contracts.
-/
namespace Go.Proofs.YtfodkkdggajjaaaDoor
open Go.RowKit

set_option maxHeartbeats 400000 in
theorem wrap_nil (s : ByteArray) (w : World) :
    Calls Tryd.prog 29 #[.string s, .nilIface] w fun e w' => e = .returned .nilIface ∧ w = w' := by
  go_enter Tryd.func29, Tryd.ntmps29
  go_wp2
  go_ret
  exact ⟨rfl, rfl⟩

set_option maxHeartbeats 400000 in
theorem wrap_held (s : ByteArray) (u : TypeId) (x : Value) (w : World) :
    Calls Tryd.prog 29 #[.string s, .iface u x] w fun e w' => e = .returned (.iface 89 (.pointer (some ⟨w.heap.size, 0, none⟩))) ∧ w.alloc (.cells #[.string s, .iface u x] 91) = w' := by
  go_enter Tryd.func29, Tryd.ntmps29
  go_wp2
  go_ret
  exact ⟨rfl, rfl⟩

set_option maxHeartbeats 400000 in
theorem unwrap_nil (w : World) :
    Calls Tryd.prog 110 #[.pointer none] w fun e w' => e = .returned .nilIface ∧ w = w' := by
  go_enter Tryd.func110, Tryd.ntmps110
  go_wp2
  go_ret
  exact ⟨rfl, rfl⟩

set_option maxHeartbeats 400000 in
theorem unwrap_at (b : Nat) (v : Value) (w : World) (h : w.cell? ⟨b, 1, none⟩ = some v) :
    Calls Tryd.prog 110 #[.pointer (some ⟨b, 0, none⟩)] w fun e w' => e = .returned v ∧ w = w' := by
  go_enter Tryd.func110, Tryd.ntmps110
  go_wp2
  go_ret
  exact ⟨rfl, rfl⟩

theorem Chain.held {w : World} {cs : List ByteArray} {n : Int} {v : Value} (h : Chain w cs (some n) v) : ∃ u x, v = .iface u x := by
  cases cs with
  | nil => exact ⟨_, _, h⟩
  | cons c cs => obtain ⟨b, v', e, _⟩ := h; exact ⟨_, _, e⟩

theorem Chain.lay {w : World} {cs : List ByteArray} {o : Option Int} {v : Value} (s : ByteArray) (h : Chain w cs o v) :
    Chain (w.alloc (.cells #[.string s, v] 91)) (s :: cs) o (.iface 89 (.pointer (some ⟨w.heap.size, 0, none⟩))) :=
  ⟨w.heap.size, v, rfl, by simp, by simp, by simp, h.below ((Below.refl _ _).alloc (Nat.le_refl _) _)⟩

def AllPost (w : World) (ss : List ByteArray) (n : Int) (e : Ending) (w' : World) : Prop :=
  ∃ u x, e = .returned (.iface u x) ∧ Chain w' ss.reverse (some n) (.iface u x) ∧ Below w.heap.size w w'

def AllRel (w : World) (ss : List ByteArray) (n : Int) (k : Nat) (v : Value) (w' : World) : Prop :=
  ∃ u x, v = .iface u x ∧ Chain w' (ss.take k).reverse (some n) (.iface u x) ∧ Below w.heap.size w w'

end Go.Proofs.YtfodkkdggajjaaaDoor

/-
  errors.As by its contracts, at the two targets that package fail uses. Go's own text of errors.As and errors.as is walked.
-/
namespace Go.Proofs.YtfodkkdggajjaaaDoor
open Go.RowKit Go.Extern.Stop Go.Stop Go.Extern


theorem kindEE (w : World) : ((ReflectliteType.abiMethod fun t => (fun a : Nat => Value.int IntKind.u8 (a : Int)) <$> Rtype.kind t) #[.pointer (some ⟨8, 33, none⟩)]).run Tryd.prog w = .ok (.int .u8 2) w := by kernel_rfl
theorem implementsE (w : World) : (ReflectliteType.relation "Implements" ReflectliteType.implements_ #[.agg #[.pointer (some ⟨8, 33, none⟩)], .iface 66 (.agg #[.pointer (some ⟨8, 28, none⟩)])]).run Tryd.prog w = .ok (.bool true) w := by kernel_rfl
theorem typeOfE (v : Value) (w : World) : (ReflectliteType.typeOf #[.iface 33 v]).run Tryd.prog w = .ok (.iface 66 (.agg #[.pointer (some ⟨8, 33, none⟩)])) w := by kernel_rfl
theorem mkE (p : Addr) (w : World) : (ReflectliteValue.mk 33 p ReflectliteValue.flagAddr).run Tryd.prog w = .ok (.agg #[.pointer (some ⟨8, 33, none⟩), .pointer (some p), .int .u64 386]) w := by kernel_rfl
theorem partsAE (a : Addr) (w : World) : (ReflectliteValue.parts (.agg #[.pointer (some ⟨8, 33, none⟩), .pointer (some a), .int .u64 386])).run Tryd.prog w = .ok (some (33, a, 386)) w := by kernel_rfl
theorem partsVE (a : Addr) (w : World) : (ReflectliteValue.parts (.agg #[.pointer (some ⟨8, 33, none⟩), .pointer (some a), .int .u64 130])).run Tryd.prog w = .ok (some (33, a, 130)) w := by kernel_rfl
theorem directE (w : World) : (Rtype.directlyAssignable 33 33).run Tryd.prog w = .ok true w := by kernel_rfl


theorem kindEF (w : World) : ((ReflectliteType.abiMethod fun t => (fun a : Nat => Value.int IntKind.u8 (a : Int)) <$> Rtype.kind t) #[.pointer (some ⟨8, 89, none⟩)]).run Tryd.prog w = .ok (.int .u8 22) w := by kernel_rfl
theorem implementsF (w : World) : (ReflectliteType.relation "Implements" ReflectliteType.implements_ #[.agg #[.pointer (some ⟨8, 89, none⟩)], .iface 66 (.agg #[.pointer (some ⟨8, 28, none⟩)])]).run Tryd.prog w = .ok (.bool true) w := by kernel_rfl
theorem typeOfF (v : Value) (w : World) : (ReflectliteType.typeOf #[.iface 89 v]).run Tryd.prog w = .ok (.iface 66 (.agg #[.pointer (some ⟨8, 89, none⟩)])) w := by kernel_rfl
theorem mkF (p : Addr) (w : World) : (ReflectliteValue.mk 89 p ReflectliteValue.flagAddr).run Tryd.prog w = .ok (.agg #[.pointer (some ⟨8, 89, none⟩), .pointer (some p), .int .u64 406]) w := by kernel_rfl
theorem partsAF (a : Addr) (w : World) : (ReflectliteValue.parts (.agg #[.pointer (some ⟨8, 89, none⟩), .pointer (some a), .int .u64 406])).run Tryd.prog w = .ok (some (89, a, 406)) w := by kernel_rfl
theorem partsVF (a : Addr) (w : World) : (ReflectliteValue.parts (.agg #[.pointer (some ⟨8, 89, none⟩), .pointer (some a), .int .u64 150])).run Tryd.prog w = .ok (some (89, a, 150)) w := by kernel_rfl
theorem directF (w : World) : (Rtype.directlyAssignable 89 89).run Tryd.prog w = .ok true w := by kernel_rfl


theorem valueOfErrno (n : Int) (w : World) : (ReflectliteValue.unpack (.iface 33 (.int .i64 n))).run Tryd.prog w
    = .ok (.agg #[.pointer (some ⟨8, 33, none⟩), .pointer (some ⟨w.heap.size, 0, none⟩), .int .u64 130]) (w.alloc (.cells #[.int .i64 n] 33)) := by kernel_rfl
theorem valueOfFail (e : Addr) (w : World) : (ReflectliteValue.unpack (.iface 89 (.pointer (some e)))).run Tryd.prog w
    = .ok (.agg #[.pointer (some ⟨8, 89, none⟩), .pointer (some ⟨w.heap.size, 0, none⟩), .int .u64 150]) (w.alloc (.cells #[.pointer (some e)] 89)) := by kernel_rfl
theorem assignEE (w : World) : (ReflectliteType.relation "AssignableTo" ReflectliteType.assignableTo #[.agg #[.pointer (some ⟨8, 33, none⟩)], .iface 66 (.agg #[.pointer (some ⟨8, 33, none⟩)])]).run Tryd.prog w = .ok (.bool true) w := by kernel_rfl
theorem assignFF (w : World) : (ReflectliteType.relation "AssignableTo" ReflectliteType.assignableTo #[.agg #[.pointer (some ⟨8, 89, none⟩)], .iface 66 (.agg #[.pointer (some ⟨8, 89, none⟩)])]).run Tryd.prog w = .ok (.bool true) w := by kernel_rfl
theorem assignFE (w : World) : (ReflectliteType.relation "AssignableTo" ReflectliteType.assignableTo #[.agg #[.pointer (some ⟨8, 89, none⟩)], .iface 66 (.agg #[.pointer (some ⟨8, 33, none⟩)])]).run Tryd.prog w = .ok (.bool false) w := by kernel_rfl
theorem assignEF (w : World) : (ReflectliteType.relation "AssignableTo" ReflectliteType.assignableTo #[.agg #[.pointer (some ⟨8, 33, none⟩)], .iface 66 (.agg #[.pointer (some ⟨8, 89, none⟩)])]).run Tryd.prog w = .ok (.bool false) w := by kernel_rfl
theorem methodKind (h : Value) (w : World) : (Go.method 267 66 (.agg #[h]) "Kind").run Tryd.prog w = .ok (96, h) w := by kernel_rfl
theorem methodElem (h : Value) (w : World) : (Go.method 267 66 (.agg #[h]) "Elem").run Tryd.prog w = .ok (100, .agg #[h]) w := by kernel_rfl
theorem methodImplements (h : Value) (w : World) : (Go.method 267 66 (.agg #[h]) "Implements").run Tryd.prog w = .ok (101, .agg #[h]) w := by kernel_rfl
theorem methodAssignableTo (h : Value) (w : World) : (Go.method 267 66 (.agg #[h]) "AssignableTo").run Tryd.prog w = .ok (98, .agg #[h]) w := by kernel_rfl
theorem methodComparable (h : Value) (w : World) : (Go.method 267 66 (.agg #[h]) "Comparable").run Tryd.prog w = .ok (99, .agg #[h]) w := by kernel_rfl
theorem methodUnwrap (a : Addr) (w : World) : (Go.method 267 89 (.pointer (some a)) "Unwrap").run Tryd.prog w = .ok (110, .pointer (some a)) w := by kernel_rfl

theorem assertIsE (n : Int) (w : World) : (Instr.typeAssert (.iface 33 (.int .i64 n)) 28 68 true).run Tryd.prog w = .ok (.tuple #[.nilIface, .bool false]) w := run_typeAssert_lacksB Tryd.underlying68 (by kernel_rfl) (by kernel_rfl) _ _ _
theorem assertIsF (a : Addr) (w : World) : (Instr.typeAssert (.iface 89 (.pointer (some a))) 28 68 true).run Tryd.prog w = .ok (.tuple #[.nilIface, .bool false]) w := run_typeAssert_lacksB Tryd.underlying68 (by kernel_rfl) (by kernel_rfl) _ _ _
theorem assertManyE (n : Int) (w : World) : (Instr.typeAssert (.iface 33 (.int .i64 n)) 28 73 true).run Tryd.prog w = .ok (.tuple #[.nilIface, .bool false]) w := run_typeAssert_lacksB Tryd.underlying73 (by kernel_rfl) (by kernel_rfl) _ _ _
theorem assertManyF (a : Addr) (w : World) : (Instr.typeAssert (.iface 89 (.pointer (some a))) 28 73 true).run Tryd.prog w = .ok (.tuple #[.nilIface, .bool false]) w := run_typeAssert_lacksB Tryd.underlying73 (by kernel_rfl) (by kernel_rfl) _ _ _
theorem assertOneE (n : Int) (w : World) : (Instr.typeAssert (.iface 33 (.int .i64 n)) 28 71 true).run Tryd.prog w = .ok (.tuple #[.nilIface, .bool false]) w := run_typeAssert_lacksB Tryd.underlying71 (by kernel_rfl) (by kernel_rfl) _ _ _
theorem assertOneF (a : Addr) (w : World) : (Instr.typeAssert (.iface 89 (.pointer (some a))) 28 71 true).run Tryd.prog w = .ok (.tuple #[.iface 89 (.pointer (some a)), .bool true]) w := by kernel_rfl
end Go.Proofs.YtfodkkdggajjaaaDoor

/-
  errors.is and errors.Is, of a chain that ends in a number, against a number.
-/
namespace Go.Proofs.YtfodkkdggajjaaaDoor
open Go.RowKit Go.Extern.Stop Go.Stop Go.Extern

theorem eql_in (P : Program) (w : World) (d : Nat) {ti tn : TypeId} {ms : Array (String × TypeId)} {i : TypeInfo} {k : IntKind} (a b : Int)
    (hi : P.underlying ti = some (.interface ms)) (hn : P.underlying tn = some (.int k)) (hinfo : P.info? tn = some i) (hcomp : i.comparable = true) :
    (Op.equalIn (d + 2) ti (.iface tn (.int k a)) (.iface tn (.int k b))).run P w = .ok (a == b) w := by
  simp [Op.equalIn, run_underlying hi, run_underlying hn, typeInfo, hinfo, hcomp]
/-- Two numbers of one type, as values of an interface. -/
theorem eql_numbers (a b : Int) (w : World) : (binOp .eql 28 (.iface 33 (.int .i64 a)) (.iface 33 (.int .i64 b))).run Tryd.prog w = .ok (.bool (a == b)) w := by
  obtain ⟨i, hi, hc⟩ := Option.map_eq_some_iff.1 (show (Tryd.prog.info? 33).map (·.comparable) = some true by kernel_rfl)
  simp only [binOp]
  simp [Op.equal, Op.maxDepth, eql_in Tryd.prog w 9998 a b Tryd.underlying28 Tryd.underlying33 hi hc]
theorem eql_types (p : Addr) (b : Int) (w : World) : (binOp .eql 28 (.iface 89 (.pointer (some p))) (.iface 33 (.int .i64 b))).run Tryd.prog w = .ok (.bool false) w :=
  run_eql_iface_types _ _ _ _ Tryd.underlying28 (by decide) w
theorem comparableE (w : World) : (callFunc 99 #[.agg #[.pointer (some ⟨8, 33, none⟩)]]).run Tryd.prog w = .ok (.value (.bool true)) w := by kernel_rfl

def IsRel (w : World) (n : Int) (k : Nat) (p : Value) (wr : World) : Prop := wr = w ∧ ∃ cs, cs.length = k ∧ Chain w cs (some n) p

set_option maxHeartbeats 4000000 in
set_option maxRecDepth 100000 in
theorem is1_any (cs : List ByteArray) (n m : Int) (u : TypeId) (x : Value) (w : World) (hc : Chain w cs (some n) (.iface u x)) :
    Calls Tryd.prog 22 #[.iface u x, .iface 33 (.int .i64 m), .bool true] w fun e w' => e = .returned (.bool (n == m)) ∧ w = w' := by
  have HC := Lib.hid hc
  clear hc
  have mU := methodUnwrap
  have isE := assertIsE
  have isF := assertIsF
  have o1E := assertOneE
  have o1F := assertOneF
  have omE := assertManyE
  have eN := eql_numbers
  have eT := eql_types
  go_enter Tryd.func22, Tryd.ntmps22
  go_wp2
  go_loopg [0] cs.length (fun k p wr => IsRel w n k p wr)
  case atStart => exact ⟨rfl, cs, rfl, HC.out⟩
  case round =>
    obtain ⟨rfl, ds, hk, hch⟩ := hrel
    cases ds with
    | nil =>
      obtain rfl : _ = Value.iface 33 (.int .i64 n) := hch
      clear hk
      by_cases hnm : (n == m) = true
      · go_wp2
        go_ret
        exact ⟨by rw [hnm]; rfl, rfl⟩
      · have hf : (n == m) = false := by simpa using hnm
        clear hnm
        go_wp2
        go_ret
        exact ⟨by rw [hf]; rfl, rfl⟩
    | cons d ds =>
      obtain ⟨b, v', rfl, hlt, hc0, hc1, hrest⟩ := hch
      obtain ⟨u2, x2, rfl⟩ := hrest.held
      have HR := Lib.hid hrest
      have HK := Lib.hid hk
      clear hrest hk
      go_wp2_with (go_at_call 110; refine (unwrap_at b _ _ hc1).mono ?_; rintro e w' ⟨rfl, rfl⟩)
      go_roundg ds.length
      case measure => rw [← HK.out]; simp
      case rel => exact ⟨rfl, ds, rfl, HR.out⟩

set_option maxHeartbeats 4000000 in
set_option maxRecDepth 100000 in
theorem is_any (cs : List ByteArray) (n m : Int) (u : TypeId) (x : Value) (w : World) (hc : Chain w cs (some n) (.iface u x)) :
    Calls Tryd.prog 11 #[.iface u x, .iface 33 (.int .i64 m)] w fun e w' => e = .returned (.bool (n == m)) ∧ w = w' := by
  have HC := Lib.hid hc
  clear hc
  have x25 := @run_callFunc_extern Tryd.prog 21 _ ReflectliteType.typeOf Tryd.func21 (by kernel_rfl) (by kernel_rfl) (by kernel_rfl) (by kernel_rfl)
  have tOE := typeOfE
  have mC := methodComparable
  have cE := comparableE
  go_enter Tryd.func11, Tryd.ntmps11
  go_wp2_with (go_at_call 22; refine (is1_any cs n m u x _ HC.out).mono ?_; rintro e w' ⟨rfl, rfl⟩)
  go_ret
  exact ⟨rfl, rfl⟩
end Go.Proofs.YtfodkkdggajjaaaDoor

/-
  The document's Encode of layer 4 at scalars, by its contract.
-/
import Derived.Test.YtmnpefpglpabmaaDoorNRefEnc
namespace Go.Proofs.YtmnpefpglpabmaaDoor
open Go.RowKit

theorem filt_count (l : List Nat) (m : Nat) : (l.filter (· < m + 1)).length = (l.filter (· < m)).length + l.count m := by
  induction l with
  | nil => rfl
  | cons c l ih =>
    by_cases h1 : c < m
    · rw [List.filter_cons_of_pos (by simp; omega), List.filter_cons_of_pos (by simpa using h1), List.count_cons_of_ne (by omega)]
      simp only [List.length_cons]; omega
    · by_cases h2 : c = m
      · subst h2
        rw [List.filter_cons_of_pos (by simp), List.filter_cons_of_neg (by simp), List.count_cons_self]
        simp only [List.length_cons]; omega
      · rw [List.filter_cons_of_neg (by simp; omega), List.filter_cons_of_neg (by simp; omega), List.count_cons_of_ne (by omega)]
        exact ih
theorem count_take (l : List Nat) (m k : Nat) (h : k < l.length) : (l.take (k + 1)).count m = (l.take k).count m + (if l[k] = m then 1 else 0) := by
  rw [List.take_succ_eq_append_getElem h, List.count_append, List.count_singleton]
  simp
/-- What is still to be told, inside a pass. -/
def restOf (ln : List Nat) (f m : Nat) (t : List Nat) (d h : Nat) : List Nat := (scan m t d).1 ++ deltas ln f (m + 1) ((scan m t d).2 + 1) (h + (scan m t d).1.length)
theorem rest_nil (ln : List Nat) (f m d h : Nat) : restOf ln f m [] d h = deltas ln f (m + 1) (d + 1) h := rfl
theorem rest_lt (ln : List Nat) (f m c d h : Nat) (t : List Nat) (hc : c < m) : restOf ln f m (c :: t) d h = restOf ln f m t (d + 1) h := by
  unfold restOf; rw [show scan m (c :: t) d = scan m t (d + 1) by simp [scan, hc]]
theorem rest_gt (ln : List Nat) (f m c d h : Nat) (t : List Nat) (hc : m < c) : restOf ln f m (c :: t) d h = restOf ln f m t d h := by
  unfold restOf; rw [show scan m (c :: t) d = scan m t d by simp [scan, show ¬ c < m by omega, show ¬ c = m by omega]]
theorem rest_eq (ln : List Nat) (f m d h : Nat) (t : List Nat) : restOf ln f m (m :: t) d h = d :: restOf ln f m t 0 (h + 1) := by
  unfold restOf
  rw [show scan m (m :: t) d = (d :: (scan m t 0).1, (scan m t 0).2) by simp [scan]]
  simp only [List.cons_append, List.length_cons]
  rw [show h + ((scan m t 0).1.length + 1) = h + 1 + (scan m t 0).1.length by omega]
theorem deltas_more (ln : List Nat) (f n d h : Nat) (hh : h < ln.length) : deltas ln (f + 1) n d h = restOf ln f (least ln n) ln (d + (least ln n - n) * (h + 1)) h := by
  rw [deltas, if_pos hh]; rfl
theorem deltas_done (ln : List Nat) (f n d h : Nat) (hh : ¬ h < ln.length) : deltas ln f n d h = [] := by
  cases f with
  | zero => rfl
  | succ f => rw [deltas, if_neg hh]
theorem tellK_length (bias : Nat) : ∀ (q k : Nat), (tellK q bias k).length ≤ q + 1 := by
  intro q
  induction q using Nat.strongRecOn with
  | _ q ih =>
    intro k
    have ht := thr_pos k bias
    by_cases h : q < thr k bias
    · rw [tellK_small h]; simp
    · rw [tellK_more h, List.length_cons]
      have h1 : (q - thr k bias) / (36 - thr k bias) ≤ q - thr k bias := Nat.div_le_self _ _
      have := ih ((q - thr k bias) / (36 - thr k bias)) (by omega) (k + 36)
      omega

theorem beq_cast (a b : Nat) : ((a : Int) == (b : Int)) = (a == b) := by
  by_cases h : a = b
  · subst h; simp
  · rw [beq_eq_false_iff_ne.2 h, beq_eq_false_iff_ne.2 (by omega)]
theorem filt_same {l : List Nat} {n m : Nat} (h1 : n ≤ m) (h2 : ∀ c ∈ l, n ≤ c → m ≤ c) : l.filter (· < n) = l.filter (· < m) := by
  refine List.filter_congr fun c hc => ?_
  have := h2 c hc
  by_cases h : c < n
  · simp [h]; omega
  · simp [h]; exact this (by omega)

/-- The outer loop: what is told, and what is still to be told. -/
def EncRel (w : World) (ln : List Nat) (v : Value) (n d bias h : Nat) (wr : World) : Prop :=
  ∃ (f : Nat) (acc : List UInt8), MadeB w wr v acc ∧ acc ++ tells (basicOf ln).length (deltas ln f n d h) bias h = penc ln ∧ h = (ln.filter (· < n)).length ∧ ln.length - h ≤ f ∧
    n ≤ 1114112 ∧ d ≤ 61 * n ∧ bias ≤ 100000000 ∧ acc.length ≤ (h + 1) * 100000000
/-- The inner loop. -/
def PassRel (w : World) (ln : List Nat) (f m x : Nat) (v : Value) (d bias h : Nat) (wr : World) : Prop :=
  ∃ acc : List UInt8, MadeB w wr v acc ∧ acc ++ tells (basicOf ln).length (restOf ln f m (ln.drop x) d h) bias h = penc ln ∧ h = (ln.filter (· < m)).length + (ln.take x).count m ∧
    d ≤ 61 * m + x ∧ bias ≤ 100000000 ∧ acc.length ≤ (h + 1) * 100000000

set_option maxHeartbeats 2000000 in
set_option maxRecDepth 100000 in
theorem refEnc_good (A : Option Addr) (ln : List Nat) (cap : Nat) (w : World) (hr : Runes w A (ints ln)) (hl : ln.length ≤ 60) (hs : ∀ c ∈ ln, sc c = true) :
    Calls Tryd.prog 7 #[.slice A ln.length cap] w (TextTwo ⟨(penc ln).toArray⟩ 0 w) := by
  obtain ⟨i0, hi, hz0, hz1, hz2⟩ := info_parts Tryd.infoB
  have HI := Lib.hid (And.intro hi (And.intro hz0 (And.intro hz1 hz2)))
  have HR := Lib.hid hr
  have HS := Lib.hid hs
  have HLt : Hid (∀ c ∈ ln, c < 1114112) := fun c hc => sc_lt (hs c hc)
  have hbl := basic_length ln
  clear hi hz0 hz1 hz2 hr hs
  go_enter Tryd.func7, Tryd.ntmps7
  go_wp2
  go_loopw [4, 5] (fun v i wr => ∃ k : Nat, k ≤ ln.length ∧ i = .int .i64 k ∧ MadeB w wr v ((basicOf (ln.take k)).map UInt8.ofNat)) (fun _ i _ => ln.length - (intOf i).toNat)
  case atStart => exact ⟨0, Nat.zero_le _, rfl, ⟨World.ownsRow_nil _ _ _ _, Below.refl _ _⟩⟩
  case round =>
    obtain ⟨k, hk, rfl, hm⟩ := hrel
    have HM := Lib.hid hm
    have hbk : ((basicOf (ln.take k)).map UInt8.ofNat).length ≤ 60 := by
      have := basic_length (ln.take k)
      rw [List.length_map]
      rw [List.length_take] at this
      omega
    by_cases hlt : k < ln.length
    · obtain ⟨b, off, rfl, _, hc⟩ := (HR.out.below hm.2) k _ (ints_at ln k hlt)
      have HX : Hid (scal (ln[k] : Int) = true) := by
        show scal (ln[k] : Int) = true
        rw [sc_scal]; exact HS.out _ (List.getElem_mem hlt)
      have hx0 := HLt.out _ (List.getElem_mem hlt)
      have HG := Lib.hid (basic_succ_ge ln k hlt)
      have HL := Lib.hid (basic_succ_lt ln k hlt)
      clear hm
      obtain ⟨x, hx⟩ : ∃ x, ln[k] = x := ⟨_, rfl⟩
      rw [hx] at hc HX hx0 HG HL
      clear hx
      obtain ⟨bs, hbs⟩ : ∃ bs, (basicOf (ln.take k)).map UInt8.ofNat = bs := ⟨_, rfl⟩
      rw [hbs] at HM hbk HG HL
      clear hbs
      by_cases h128 : x < 128
      · have HL := Lib.hid (HL.out h128)
        have HCell : Hid (cellsOf [UInt8.ofNat x] = [.int .u8 (x : Int)]) := by
          show cellsOf [UInt8.ofNat x] = [.int .u8 (x : Int)]
          simp only [cellsOf, List.map]; rw [ofNat_toNat x (by omega)]
        go_wp2_with (first
          | (go_at_call 27; refine (scalar_true _ _ HX.out).mono ?_; rintro e w' ⟨rfl, rfl⟩)
          | (at_builtin
             refine wpList_append_own _ rfl (.tmp 33) (.tmp 39) 45 rfl w.heap.size 5 i0 _ 1 1 Tryd.underlying45 HI.out.1 HI.out.2.1 HI.out.2.2.1 HI.out.2.2.2 rfl (by decide) _ _ _ rfl (HM.out.1.alloc _) ⟨wr.heap.size, 0, none⟩ 1 1 [.int .u8 (x : Int)] rfl rfl (cell_one_new _ _ _) (by simp [Value.oneCell']) ?ha ?hb ?hc ?_
             case ha => simp only [maxLen]; omega
             case hb => omega
             case hc => have := HM.out.2.size; simp; omega
             intro v' w2 hown' hgrow _))
        go_roundw
        case rel => exact ⟨k + 1, by omega, by go_num, by rw [HL.out]; exact HM.out.push (t := [UInt8.ofNat x]) (by rw [HCell.out]; exact hown') hgrow⟩
        case measure => simp [intOf]; omega
      · have HG := Lib.hid (HG.out h128)
        go_wp2_with (go_at_call 27; refine (scalar_true _ _ HX.out).mono ?_; rintro e w' ⟨rfl, rfl⟩)
        go_roundw
        case rel => exact ⟨k + 1, by omega, by go_num, by rw [HG.out]; exact HM.out⟩
        case measure => simp [intOf]; omega
    · have HM : Hid (MadeB w wr u4 ((basicOf ln).map UInt8.ofNat)) := by
        rw [List.take_of_length_le (by omega)] at hm
        exact hm
      clear hm hbk
      obtain ⟨nb, hnb⟩ : ∃ nb, (basicOf ln).length = nb := ⟨_, rfl⟩
      obtain ⟨A4, c4, e4⟩ := HM.out.form
      rw [List.length_map, hnb] at e4
      subst e4
      have hnb60 : nb ≤ 60 := by omega
      have HNb := Lib.hid hnb
      clear hnb hbl
      obtain ⟨a0, ha0⟩ : ∃ a0 : List UInt8, (basicOf ln).map UInt8.ofNat ++ (if nb = 0 then [] else [45]) = a0 := ⟨_, rfl⟩
      have HPe : Hid (a0 ++ tells (basicOf ln).length (deltas ln ln.length 128 0 nb) 72 nb = penc ln) := by
        show a0 ++ tells (basicOf ln).length (deltas ln ln.length 128 0 nb) 72 nb = penc ln
        unfold penc
        rw [HNb.out, ← ha0]
      have HA0 : Hid (a0.length ≤ (nb + 1) * 100000000) := by
        show a0.length ≤ _
        rw [← ha0, List.length_append, List.length_map, HNb.out]
        split <;> simp <;> omega
      by_cases hz : nb = 0
      · have HM0 : Hid (MadeB w wr (.slice A4 nb c4) a0) := by
          show MadeB _ _ _ _
          rw [← ha0, if_pos hz, List.append_nil]
          exact HM.out
        have hz1 : ¬ ((0 : Int) < (nb : Int)) := by omega
        clear hz ha0
        go_wp2
        go_loopw [4, 7, 8, 9, 10] (fun v a b c d wx => ∃ n dl bias h : Nat, a = .int .i64 n ∧ b = .int .i64 dl ∧ c = .int .i64 bias ∧ d = .int .i64 h ∧ EncRel w ln v n dl bias h wx) (fun _ _ _ _ d _ => ln.length - (intOf d).toNat)
        case atStart => exact ⟨128, 0, 72, nb, rfl, rfl, rfl, by go_num, ln.length, a0, HM0.out, HPe.out, HNb.out.symm, by omega, by omega, by omega, by omega, HA0.out⟩
        case round =>
          obtain ⟨n, dl, bias, h, rfl, rfl, rfl, rfl, f, acc, hm, hacc, hh, hf, hn, hd, hbi, hal⟩ := hrel
          have h60 : h ≤ ln.length := by rw [hh]; exact List.length_filter_le _ _
          have HM := Lib.hid hm
          have HH := Lib.hid hh
          by_cases hlt2 : h < ln.length
          · obtain ⟨f, rfl⟩ : ∃ g, f = g + 1 := ⟨f - 1, by omega⟩
            have hls := least_spec HLt.out (filter_ex (n := n) (by omega))
            rw [deltas_more _ _ _ _ _ hlt2] at hacc
            obtain ⟨m, hmm⟩ : ∃ m, least ln n = m := ⟨_, rfl⟩
            rw [hmm] at hls hacc
            have hm1 := HLt.out m hls.1
            have hm2 := hls.2.1
            have HSame : Hid ((ln.filter (· < n)).length = (ln.filter (· < m)).length) := congrArg List.length (filt_same hls.2.1 hls.2.2)
            have HCnt : Hid (1 ≤ ln.count m) := List.count_pos_iff.2 hls.1
            have HLe := Lib.hid hmm
            clear hmm hls hm hh
            obtain ⟨P, hP⟩ : ∃ P, (m - n) * (h + 1) = P := ⟨_, rfl⟩
            have hPi : ((m : Int) - (n : Int)) * ((h : Int) + 1) = (P : Int) := by
              rw [← hP, Int.natCast_mul]; congr 1; omega
            have hPb : P ≤ (m - n) * 61 := by rw [← hP]; exact Nat.mul_le_mul_left _ (by omega)
            rw [hP] at hacc
            have HAcc := Lib.hid hacc
            clear hP hacc
            go_wp2_with (go_at_call 28; refine (least_any A ln cap n _ _ rfl (HR.out.below HM.out.2) HLt.out (by omega) hn).mono ?_; rintro e w' ⟨rfl, rfl⟩; rw [HLe.out])
            go_loopw [4, 8, 9, 10, 12] (fun v b c d i wx => ∃ x dl bias h : Nat, x ≤ ln.length ∧ i = .int .i64 x ∧ b = .int .i64 dl ∧ c = .int .i64 bias ∧ d = .int .i64 h ∧ PassRel w ln f m x v dl bias h wx) (fun _ _ _ _ i _ => ln.length - (intOf i).toNat)
            case atStart => exact ⟨0, dl + P, bias, h, Nat.zero_le _, rfl, by go_num, rfl, rfl, acc, HM.out, HAcc.out, by rw [← HSame.out]; simpa using HH.out, by omega, hbi, hal⟩
            case round =>
              obtain ⟨x, dl, bias, h2, hx, rfl, rfl, rfl, rfl, acc, hm, hacc, hh, hd2, hbi, hal⟩ := hrel
              have HM := Lib.hid hm
              have h260 : h2 ≤ ln.length := by
                have h1 := List.length_filter_le (· < m + 1) ln
                rw [filt_count] at h1
                have h3 : (ln.take x).count m ≤ ln.count m := (List.take_sublist x ln).count_le _
                omega
              by_cases hlt3 : x < ln.length
              · obtain ⟨b, off, rfl, _, hc⟩ := (HR.out.below hm.2) x _ (ints_at ln x hlt3)
                have hc0 := HLt.out _ (List.getElem_mem hlt3)
                have hct := count_take ln m x hlt3
                rw [List.drop_eq_getElem_cons hlt3] at hacc
                obtain ⟨y, hy⟩ : ∃ y, ln[x] = y := ⟨_, rfl⟩
                rw [hy] at hc hc0 hct hacc
                clear hy hm
                by_cases hc1 : y < m
                · rw [rest_lt _ _ _ _ _ _ _ hc1] at hacc
                  rw [if_neg (by omega)] at hct
                  have HAcc := Lib.hid hacc
                  have HCt := Lib.hid (And.intro hh hct)
                  clear hacc hct hh
                  have hne : ((y : Int) == (m : Int)) = false := beq_eq_false_iff_ne.2 (by omega)
                  go_wp2
                  go_roundw
                  case rel => exact ⟨x + 1, dl + 1, bias, h2, by omega, by go_num, by go_num, rfl, rfl, acc, HM.out, HAcc.out, by rw [HCt.out.2]; exact HCt.out.1, by omega, hbi, hal⟩
                  case measure => simp [intOf]; omega
                · by_cases hc2 : y = m
                  · subst hc2
                    rw [rest_eq] at hacc
                    rw [if_pos rfl] at hct
                    have HAcc := Lib.hid hacc
                    have HCt := Lib.hid (And.intro hh hct)
                    have hne : ((y : Int) == (y : Int)) = true := by simp
                    clear hacc hct hh
                    have had := adapt_le dl (h2 + 1) (h2 == nb)
                    have htl := tellK_length bias dl 36
                    have HAd := Lib.hid had
                    have HTl := Lib.hid htl
                    clear had htl
                    go_wp2_with (first
                      | (go_at_call 29; refine (tell_any dl bias _ _ _ rfl rfl (by omega) (by omega)).mono ?_; rintro e w3 ⟨v3, rfl, hm3⟩; have HM3 := Lib.hid hm3; have HMc := Lib.hid (HM.out.carry hm3.2); clear hm3)
                      | (go_at_call 30; refine (adapt_any dl (h2 + 1) _ _ _ _ rfl (by omega) (by omega) (by omega) (by omega)).mono ?_; rintro e w' ⟨rfl, rfl⟩)
                      | (at_builtin
                         refine append_bytes rfl (.tmp 87) (.tmp 90) rfl _ v3 acc (tellK dl bias 36) rfl rfl HMc.out HM3.out (tellK_ne _ _ _) ?ha ?_
                         case ha => have := HTl.out; omega
                         intro v4 w4 hm4
                         have HM4 := Lib.hid hm4
                         clear hm4))
                    go_roundw
                    case rel =>
                      refine ⟨x + 1, 0, adapt dl (h2 + 1) (h2 == nb), h2 + 1, by omega, by go_num, rfl, by rw [beq_cast], by go_num, acc ++ tellK dl bias 36, HM4.out, ?_, ?_, by omega, ?_, ?_⟩
                      · rw [List.append_assoc, ← HNb.out]; exact HAcc.out
                      · have h1 := HCt.out.1
                        have h2 := HCt.out.2
                        omega
                      · have := HAd.out
                        omega
                      · have := HTl.out
                        rw [List.length_append]
                        omega
                    case measure => simp [intOf]; omega
                  · rw [rest_gt _ _ _ _ _ _ _ (by omega)] at hacc
                    rw [if_neg hc2] at hct
                    have HAcc := Lib.hid hacc
                    have HCt := Lib.hid (And.intro hh hct)
                    clear hacc hct hh
                    have hne : ((y : Int) == (m : Int)) = false := beq_eq_false_iff_ne.2 (by omega)
                    go_wp2
                    go_roundw
                    case rel => exact ⟨x + 1, dl, bias, h2, by omega, by go_num, by go_num, rfl, rfl, acc, HM.out, HAcc.out, by rw [HCt.out.2]; exact HCt.out.1, by omega, hbi, hal⟩
                    case measure => simp [intOf]; omega
              · have hdn : ln.drop x = [] := List.drop_eq_nil_of_le (by omega)
                have htk : ln.take x = ln := List.take_of_length_le (by omega)
                rw [hdn, rest_nil] at hacc
                rw [htk] at hh
                have HAcc := Lib.hid hacc
                have HH2 := Lib.hid hh
                have hgrow : h < h2 := by
                  have h1 := HH.out
                  have h2 := HSame.out
                  have h3 := HCnt.out
                  omega
                have hfc := filt_count ln m
                have HFc := Lib.hid hfc
                clear hdn htk hacc hh hfc hm
                go_wp2
                go_roundw
                case rel => exact ⟨m + 1, dl + 1, bias, h2, by go_num, by go_num, rfl, rfl, f, acc, HM.out, HAcc.out, by rw [HFc.out]; exact HH2.out, by omega, by omega, by omega, hbi, hal⟩
                case measure => simp [intOf]; omega
          · rw [deltas_done _ _ _ _ _ hlt2] at hacc
            have HAcc : Hid (acc = penc ln) := by
              show acc = penc ln
              rw [← hacc]; simp [tells]
            have hcv := convert_bytes hm
            clear hacc hm hh
            go_wp2
            go_ret2
            exact ⟨by rw [HAcc.out]; rfl, HM.out.2⟩
      · have ha1 : (basicOf ln).map UInt8.ofNat ++ [45] = a0 := by rw [← ha0, if_neg hz]
        have HA1 := Lib.hid ha1
        have hz1 : (0 : Int) < (nb : Int) := by omega
        have hbsl : ((basicOf ln).map UInt8.ofNat).length = nb := by rw [List.length_map]; exact HNb.out
        have HBsl := Lib.hid hbsl
        clear hz ha0 ha1 hbsl
        go_wp2_with (at_builtin
                     refine wpList_append_own _ rfl (.tmp 45) (.tmp 46) 45 rfl w.heap.size 5 i0 _ 1 1 Tryd.underlying45 HI.out.1 HI.out.2.1 HI.out.2.2.1 HI.out.2.2.2 rfl (by decide) _ _ _ rfl (HM.out.1.alloc _) ⟨wr.heap.size, 0, none⟩ 1 1 [.int .u8 45] rfl rfl (cell_one_new _ _ _) (by simp [Value.oneCell']) ?ha ?hb ?hc ?_
                     case ha => rw [HBsl.out]; simp only [maxLen]; omega
                     case hb => rw [HBsl.out]; omega
                     case hc => have := HM.out.2.size; simp; omega
                     intro v' w2 hown' hgrow _)
        have HM0 : Hid (MadeB w w2 v' a0) := by
          show MadeB _ _ _ _
          rw [← HA1.out]
          exact HM.out.push (t := [45]) hown' hgrow
        clear hown' hgrow
        go_loopw [4, 7, 8, 9, 10] (fun v a b c d wx => ∃ n dl bias h : Nat, a = .int .i64 n ∧ b = .int .i64 dl ∧ c = .int .i64 bias ∧ d = .int .i64 h ∧ EncRel w ln v n dl bias h wx) (fun _ _ _ _ d _ => ln.length - (intOf d).toNat)
        case atStart => exact ⟨128, 0, 72, nb, rfl, rfl, rfl, by go_num, ln.length, a0, HM0.out, HPe.out, HNb.out.symm, by omega, by omega, by omega, by omega, HA0.out⟩
        case round =>
          obtain ⟨n, dl, bias, h, rfl, rfl, rfl, rfl, f, acc, hm, hacc, hh, hf, hn, hd, hbi, hal⟩ := hrel
          have h60 : h ≤ ln.length := by rw [hh]; exact List.length_filter_le _ _
          have HM := Lib.hid hm
          have HH := Lib.hid hh
          by_cases hlt2 : h < ln.length
          · obtain ⟨f, rfl⟩ : ∃ g, f = g + 1 := ⟨f - 1, by omega⟩
            have hls := least_spec HLt.out (filter_ex (n := n) (by omega))
            rw [deltas_more _ _ _ _ _ hlt2] at hacc
            obtain ⟨m, hmm⟩ : ∃ m, least ln n = m := ⟨_, rfl⟩
            rw [hmm] at hls hacc
            have hm1 := HLt.out m hls.1
            have hm2 := hls.2.1
            have HSame : Hid ((ln.filter (· < n)).length = (ln.filter (· < m)).length) := congrArg List.length (filt_same hls.2.1 hls.2.2)
            have HCnt : Hid (1 ≤ ln.count m) := List.count_pos_iff.2 hls.1
            have HLe := Lib.hid hmm
            clear hmm hls hm hh
            obtain ⟨P, hP⟩ : ∃ P, (m - n) * (h + 1) = P := ⟨_, rfl⟩
            have hPi : ((m : Int) - (n : Int)) * ((h : Int) + 1) = (P : Int) := by
              rw [← hP, Int.natCast_mul]; congr 1; omega
            have hPb : P ≤ (m - n) * 61 := by rw [← hP]; exact Nat.mul_le_mul_left _ (by omega)
            rw [hP] at hacc
            have HAcc := Lib.hid hacc
            clear hP hacc
            go_wp2_with (go_at_call 28; refine (least_any A ln cap n _ _ rfl (HR.out.below HM.out.2) HLt.out (by omega) hn).mono ?_; rintro e w' ⟨rfl, rfl⟩; rw [HLe.out])
            go_loopw [4, 8, 9, 10, 12] (fun v b c d i wx => ∃ x dl bias h : Nat, x ≤ ln.length ∧ i = .int .i64 x ∧ b = .int .i64 dl ∧ c = .int .i64 bias ∧ d = .int .i64 h ∧ PassRel w ln f m x v dl bias h wx) (fun _ _ _ _ i _ => ln.length - (intOf i).toNat)
            case atStart => exact ⟨0, dl + P, bias, h, Nat.zero_le _, rfl, by go_num, rfl, rfl, acc, HM.out, HAcc.out, by rw [← HSame.out]; simpa using HH.out, by omega, hbi, hal⟩
            case round =>
              obtain ⟨x, dl, bias, h2, hx, rfl, rfl, rfl, rfl, acc, hm, hacc, hh, hd2, hbi, hal⟩ := hrel
              have HM := Lib.hid hm
              have h260 : h2 ≤ ln.length := by
                have h1 := List.length_filter_le (· < m + 1) ln
                rw [filt_count] at h1
                have h3 : (ln.take x).count m ≤ ln.count m := (List.take_sublist x ln).count_le _
                omega
              by_cases hlt3 : x < ln.length
              · obtain ⟨b, off, rfl, _, hc⟩ := (HR.out.below hm.2) x _ (ints_at ln x hlt3)
                have hc0 := HLt.out _ (List.getElem_mem hlt3)
                have hct := count_take ln m x hlt3
                rw [List.drop_eq_getElem_cons hlt3] at hacc
                obtain ⟨y, hy⟩ : ∃ y, ln[x] = y := ⟨_, rfl⟩
                rw [hy] at hc hc0 hct hacc
                clear hy hm
                by_cases hc1 : y < m
                · rw [rest_lt _ _ _ _ _ _ _ hc1] at hacc
                  rw [if_neg (by omega)] at hct
                  have HAcc := Lib.hid hacc
                  have HCt := Lib.hid (And.intro hh hct)
                  clear hacc hct hh
                  have hne : ((y : Int) == (m : Int)) = false := beq_eq_false_iff_ne.2 (by omega)
                  go_wp2
                  go_roundw
                  case rel => exact ⟨x + 1, dl + 1, bias, h2, by omega, by go_num, by go_num, rfl, rfl, acc, HM.out, HAcc.out, by rw [HCt.out.2]; exact HCt.out.1, by omega, hbi, hal⟩
                  case measure => simp [intOf]; omega
                · by_cases hc2 : y = m
                  · subst hc2
                    rw [rest_eq] at hacc
                    rw [if_pos rfl] at hct
                    have HAcc := Lib.hid hacc
                    have HCt := Lib.hid (And.intro hh hct)
                    have hne : ((y : Int) == (y : Int)) = true := by simp
                    clear hacc hct hh
                    have had := adapt_le dl (h2 + 1) (h2 == nb)
                    have htl := tellK_length bias dl 36
                    have HAd := Lib.hid had
                    have HTl := Lib.hid htl
                    clear had htl
                    go_wp2_with (first
                      | (go_at_call 29; refine (tell_any dl bias _ _ _ rfl rfl (by omega) (by omega)).mono ?_; rintro e w3 ⟨v3, rfl, hm3⟩; have HM3 := Lib.hid hm3; have HMc := Lib.hid (HM.out.carry hm3.2); clear hm3)
                      | (go_at_call 30; refine (adapt_any dl (h2 + 1) _ _ _ _ rfl (by omega) (by omega) (by omega) (by omega)).mono ?_; rintro e w' ⟨rfl, rfl⟩)
                      | (at_builtin
                         refine append_bytes rfl (.tmp 87) (.tmp 90) rfl _ v3 acc (tellK dl bias 36) rfl rfl HMc.out HM3.out (tellK_ne _ _ _) ?ha ?_
                         case ha => have := HTl.out; omega
                         intro v4 w4 hm4
                         have HM4 := Lib.hid hm4
                         clear hm4))
                    go_roundw
                    case rel =>
                      refine ⟨x + 1, 0, adapt dl (h2 + 1) (h2 == nb), h2 + 1, by omega, by go_num, rfl, by rw [beq_cast], by go_num, acc ++ tellK dl bias 36, HM4.out, ?_, ?_, by omega, ?_, ?_⟩
                      · rw [List.append_assoc, ← HNb.out]; exact HAcc.out
                      · have h1 := HCt.out.1
                        have h2 := HCt.out.2
                        omega
                      · have := HAd.out
                        omega
                      · have := HTl.out
                        rw [List.length_append]
                        omega
                    case measure => simp [intOf]; omega
                  · rw [rest_gt _ _ _ _ _ _ _ (by omega)] at hacc
                    rw [if_neg hc2] at hct
                    have HAcc := Lib.hid hacc
                    have HCt := Lib.hid (And.intro hh hct)
                    clear hacc hct hh
                    have hne : ((y : Int) == (m : Int)) = false := beq_eq_false_iff_ne.2 (by omega)
                    go_wp2
                    go_roundw
                    case rel => exact ⟨x + 1, dl, bias, h2, by omega, by go_num, by go_num, rfl, rfl, acc, HM.out, HAcc.out, by rw [HCt.out.2]; exact HCt.out.1, by omega, hbi, hal⟩
                    case measure => simp [intOf]; omega
              · have hdn : ln.drop x = [] := List.drop_eq_nil_of_le (by omega)
                have htk : ln.take x = ln := List.take_of_length_le (by omega)
                rw [hdn, rest_nil] at hacc
                rw [htk] at hh
                have HAcc := Lib.hid hacc
                have HH2 := Lib.hid hh
                have hgrow : h < h2 := by
                  have h1 := HH.out
                  have h2 := HSame.out
                  have h3 := HCnt.out
                  omega
                have hfc := filt_count ln m
                have HFc := Lib.hid hfc
                clear hdn htk hacc hh hfc hm
                go_wp2
                go_roundw
                case rel => exact ⟨m + 1, dl + 1, bias, h2, by go_num, by go_num, rfl, rfl, f, acc, HM.out, HAcc.out, by rw [HFc.out]; exact HH2.out, by omega, by omega, by omega, hbi, hal⟩
                case measure => simp [intOf]; omega
          · rw [deltas_done _ _ _ _ _ hlt2] at hacc
            have HAcc : Hid (acc = penc ln) := by
              show acc = penc ln
              rw [← hacc]; simp [tells]
            have hcv := convert_bytes hm
            clear hacc hm hh
            go_wp2
            go_ret2
            exact ⟨by rw [HAcc.out]; rfl, HM.out.2⟩
end Go.Proofs.YtmnpefpglpabmaaDoor

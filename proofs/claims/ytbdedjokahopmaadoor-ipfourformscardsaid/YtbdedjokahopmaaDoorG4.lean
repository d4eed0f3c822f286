/-
  In this text, one behind the other: ZParse, ZCon, XForms, XLawsF.
-/
import Derived.Laws.Bits64b
import Derived.Deep.RegionWith
import Derived.Deep.RegionHeld3
import Derived.Deep.AppendLies
import Derived.Test.YtbdedjokahopmaaDoorG3
import Derived.Test.YtbdedjokahopmaaDoorG2
/-
  The program's Parse of layer 7.
-/
namespace Go.Proofs.YtbdedjokahopmaaDoor
open Go.RowKit

/-- A slice of numbers that the call made. -/
def MadeU (B : Nat) (w : World) (v : Value) (cs : List Nat) : Prop := w.ownsRow B 42 1 v cs.length (cs.map fun c : Nat => Value.int .u64 (c : Int))
theorem Tryd.infoU : (Tryd.prog.info? 42).map (fun i => (i.zero, i.size, i.bytes)) = some (some (.int .u64 0), 1, 8) := by kernel_rfl
theorem MadeU.below {B : Nat} {w w' : World} {v : Value} {cs : List Nat} (h : MadeU B w v cs) (hb : Below w.heap.size w w') : MadeU B w' v cs := own_below h hb
theorem MadeU.nil (B : Nat) (w : World) : MadeU B w (.slice none 0 0) [] := World.ownsRow_nil _ _ _ _
theorem MadeU.some {B : Nat} {w : World} {v : Value} {cs : List Nat} (h : MadeU B w v cs) (hn : cs ≠ []) : ∃ g c, v = .slice (some ⟨g, 0, none⟩) cs.length c ∧ cs.length ≤ c ∧ g < w.heap.size ∧ ∀ (i : Nat) x, cs[i]? = some x → w.cell? ⟨g, i, none⟩ = some (.int .u64 (x : Int)) := by
  have h' : w.ownsRow B 42 1 v cs.length (cs.map fun c : Nat => Value.int .u64 (c : Int)) := h
  rcases h.2 with ⟨rfl, h0⟩ | ⟨g, cap, cur, rfl, hh⟩
  · exact absurd (List.eq_nil_of_length_eq_zero h0) hn
  · refine ⟨g, cap, rfl, hh.2.2.1, (Array.getElem?_eq_some_iff.1 hh.2.1).1, fun i x hx => ?_⟩
    have hi : i < cs.length := (List.getElem?_eq_some_iff.1 hx).1
    have hc := h'.cellAt (g := g) i (by simpa using hi)
    rw [hc, List.getElem?_map, hx]; rfl
/-- 'append(v, n)' of one number. -/
theorem append_num {ops : Array Oper} {rest : List Oper} {o : Oper} {a : Act} {Q : Exit → Act → World → Prop} {w0 : World} (hgd : o.guard = none) (s x : Operand)
    (ho : o.op = .call { callee := .builtin .append, args := #[s, x], argTypes := #[41, 41] })
    (B : Nat) (v : Value) (cs : List Nat) (c : Nat) (hs : a.eval s = v) (hx : a.eval x = .slice (some ⟨w0.heap.size, 0, none⟩) 1 1) (h1 : MadeU B w0 v cs)
    (hl : cs.length ≤ 20000) (hB : B ≤ w0.heap.size)
    (h : ∀ v' w', MadeU B w' v' (cs ++ [c]) → Below B w0 w' → wpList Tryd.prog ops Q rest (a.put o.dst v') w') : wpList Tryd.prog ops Q (o :: rest) a (w0.alloc (.cells #[.int .u64 (c : Int)] 42)) := by
  obtain ⟨i0, hi, hz0, hz1, hz2⟩ := info_parts Tryd.infoU
  refine wpList_append_own _ hgd s x _ ho B 42 i0 _ 1 8 Tryd.underlying41 hi hz0 hz1 hz2 rfl (by decide) v _ _ hs (h1.alloc _) ⟨w0.heap.size, 0, none⟩ 1 1 [.int .u64 (c : Int)] hx rfl (cell_one_new _ _ _) (by simp [Value.oneCell']) (by simp only [maxLen]; omega) (by omega) (by simp; omega) (fun v' w' hown hg _ => h v' w' ?_ ?_)
  · show w'.ownsRow B 42 1 v' _ _
    rw [List.length_append, List.map_append]; exact hown
  · exact ((Below.refl B w0).alloc hB _).grown hg (by simp; omega) (own_ge (show w0.ownsRow B 42 1 v _ _ from h1))

theorem or_add7 (s h lo v : Nat) (hm : h % (256 * 2 ^ s) = 0) (hl : lo < 2 ^ s) (hv : v ≤ 255) : (h + lo) ||| (v * 2 ^ s) = h + v * 2 ^ s + lo := by
  have e8 : 256 * 2 ^ s = 2 ^ (s + 8) := by rw [Nat.pow_add]; omega
  rw [e8] at hm
  obtain ⟨j, rfl⟩ := Nat.dvd_of_mod_eq_zero hm
  have hp : 2 ^ s ≤ 2 ^ (s + 8) := by rw [← e8]; omega
  have h1 := Nat.two_pow_add_eq_or_of_lt (i := s + 8) (b := lo) (by omega) j
  have h2 := Nat.two_pow_add_eq_or_of_lt (i := s) (b := lo) hl v
  have h3 : 2 ^ s * v + lo < 2 ^ (s + 8) := by
    have : 2 ^ s * v ≤ 2 ^ s * 255 := Nat.mul_le_mul_left _ hv
    rw [← e8]; omega
  have h4 := Nat.two_pow_add_eq_or_of_lt (i := s + 8) (b := 2 ^ s * v + lo) h3 j
  rw [h1, Nat.or_assoc, Nat.or_comm lo, Nat.mul_comm v, ← h2, ← h4]
  omega
/-- What a part counts for. -/
def q7 : Nat → Nat
  | 0 => 16777216
  | 1 => 65536
  | 2 => 256
  | _ => 1
/-- The numbers, each stopped at the bound. -/
def caps (ns : List Nat) : List Nat := ns.map cap9
theorem nums7_step {ps : List (List UInt8)} {k n : Nat} {ns : List Nat} {x : List UInt8} (h : nums7 (ps.take k) = some ns) (hx : ps[k]? = some x) (hn : num7 x = some n) : nums7 (ps.take (k + 1)) = some (ns ++ [n]) := by
  induction ps generalizing k ns with
  | nil => simp at hx
  | cons p ps ih =>
    cases k with
    | zero =>
      simp at hx
      subst hx
      simp only [List.take_zero, nums7, Option.some.injEq] at h
      subst h
      simp [nums7, hn]
    | succ k =>
      rw [List.take_succ_cons] at h ⊢
      unfold nums7 at h
      split at h
      · rename_i m ms hm hms
        cases h
        have := ih hms (by simpa using hx)
        unfold nums7
        rw [hm, this]; rfl
      · cases h

set_option maxHeartbeats 4000000 in
set_option maxRecDepth 100000 in
theorem zparse_any (s : ByteArray) (w : World) (hs : s.size ≤ 10000) : Calls Tryd.prog 9 #[.string s] w (AddrPost (parse7 s.data.toList) w) := by
  rw [parse7_eq, parts7_trim]
  have hlen := cut7_length 46 (trimL s.data.toList)
  by_cases h4 : (cut7 46 (trimL s.data.toList)).length ≤ 4
  · rw [if_pos h4]
    obtain ⟨R, hR⟩ : ∃ R, from7 (nums7 (cut7 46 (trimL s.data.toList))) = R := ⟨_, rfl⟩
    rw [hR]
    have H4 := Lib.hid h4
    have HR := Lib.hid hR
    clear hR h4 hlen
    go_enter Tryd.func9, Tryd.ntmps9
    go_wp2_with (first
      | (go_at_call 19; refine (ztrim_any _ _ hs).mono ?_; rintro e w1 ⟨t, rfl, ht, hb⟩; have hts := ztrim_len s t ht; rw [← ht] at H4 HR; have HB := Lib.hid hb; clear ht hb)
      | (go_at_call 18; refine (zsplit_any _ _ (by omega)).mono ?_
         rw [spl5_few H4.out]
         have hne := cut7_ne 46 t.data.toList
         have hmm := fun p => cut7_mem (c := 46) (l := t.data.toList) (p := p)
         generalize cut7 46 t.data.toList = ps at H4 HR hne hmm ⊢
         have HMm : Hid (∀ p ∈ ps, p.length ≤ 10000) := fun p hp => by
           have h1 := hmm p hp
           have h2 : t.data.toList.length = t.size := by simp
           omega
         have h4 := H4.out
         have hpos : 1 ≤ ps.length := by
           cases ps with
           | nil => exact absurd rfl hne
           | cons p ps => simp
         clear hmm hne H4
         rintro e w2 ⟨A, c, rfl, hcap, hstr, hb⟩
         have HB := Lib.hid (bnext7 HB.out hb)
         have HSt := Lib.hid hstr
         clear hstr hb))
    go_loopw [5, 24] (fun v5 i wr => ∃ (k : Nat) (ns : List Nat), k ≤ ps.length ∧ i = .int .i64 k ∧ nums7 (ps.take k) = some ns ∧ MadeU w2.heap.size wr v5 (caps ns) ∧ Below w2.heap.size w2 wr) (fun _ i _ => ps.length - (intOf i).toNat)
    case atStart => exact ⟨0, [], by omega, rfl, rfl, MadeU.nil _ _, Below.refl _ _⟩
    case round =>
      obtain ⟨k, ns, hk, rfl, hns, hmu, hbl⟩ := hrel
      have hsz := hbl.size
      have hnl := nums7_length hns
      have HNs := Lib.hid hns
      have HMu := Lib.hid hmu
      have HBl := Lib.hid hbl
      have HSr := Lib.hid (HSt.out.below hbl)
      clear hns hmu hbl
      by_cases hlt : k < ps.length
      · have hx := List.getElem?_eq_getElem hlt
        have HLx := Lib.hid (HMm.out _ (List.getElem_mem hlt))
        obtain ⟨x, hxx⟩ : ∃ x, ps[k] = x := ⟨_, rfl⟩
        rw [hxx] at hx HLx
        obtain ⟨b, off, rfl, hblt, hc⟩ := strs_at HSr.out hx
        have hxs : (btx x).size ≤ 10000 := by rw [btx_size]; exact HLx.out
        have HX := Lib.hid hx
        clear hx hxx hnl
        cases hn : num7 x with
        | none =>
          have HN : Hid (R = (2, 0)) := by show R = (2, 0); rw [← HR.out, nums7_none HX.out hn]; rfl
          have HI : Hid (num7 (btx x).data.toList = none) := hn
          clear hn
          go_wp2_with (first
            | (go_at_call 21; refine (znum_is HI.out _ hxs).mono ?_; rintro e w3 ⟨rfl, hb⟩; have HBl := Lib.hid (HBl.out.trans (hb.mono HBl.out.size)); clear hb)
            | (go_at_call 20; refine (wrap7_any 2 _).mono ?_
               rintro e w4 ⟨cs, u, x, rfl, hch, hb⟩
               have HC := Lib.hid hch
               have HBl := Lib.hid (HBl.out.trans (hb.mono HBl.out.size))
               clear hch hb))
          go_ret2
          rw [HN.out]
          exact ⟨cs, u, x, rfl, HC.out, bnext7 HB.out HBl.out⟩
        | some n =>
          have HI : Hid (num7 (btx x).data.toList = some n) := hn
          have HN := Lib.hid (nums7_step HNs.out HX.out hn)
          clear hn
          go_wp2_with (first
            | (go_at_call 21; refine (znum_is HI.out _ hxs).mono ?_; rintro e w3 ⟨rfl, hb⟩; have HBl := Lib.hid (HBl.out.trans (hb.mono HBl.out.size)); have HMu := Lib.hid (HMu.out.below hb); clear hb)
            | (at_builtin
               refine append_num rfl (.tmp 37) (.tmp 39) rfl w2.heap.size _ (caps ns) (cap9 n) rfl rfl HMu.out (by simp [caps]; have := nums7_length HNs.out; simp at this; omega) HBl.out.size ?_
               intro v1 w5 hm1 hb1
               have HM1 := Lib.hid (And.intro hm1 (HBl.out.trans hb1))
               clear hm1 hb1))
          go_roundw
          case rel => exact ⟨k + 1, ns ++ [n], by omega, by go_num, HN.out, by unfold caps; rw [List.map_append]; exact HM1.out.1, HM1.out.2⟩
          case measure => simp [intOf]; omega
      · -- BEHIND
        obtain rfl : k = ps.length := by omega
        rw [List.take_length] at hnl HNs
        have HPr : Hid (R = put7 0 16777216 ns) := by show R = _; rw [← HR.out, HNs.out]; rfl
        rcases (show ps.length = 1 ∨ ps.length = 2 ∨ ps.length = 3 ∨ ps.length = 4 by omega) with hL | hL | hL | hL
        all_goals
          rw [hL] at hnl
          have HL := Lib.hid hL
          clear hL
          clear hlt hk h4 hpos hcap
        · have HNl : Hid (∃ n0, ns = [n0]) := by
            match ns, hnl with
            | [a0], _ => exact ⟨a0, rfl⟩
          obtain ⟨n0, rfl⟩ := HNl.out
          obtain ⟨g, cp, rfl, hcp, hgl, hcell⟩ := HMu.out.some (by simp [caps])
          have HMu := 0
          have c0 := hcell 0 (cap9 n0) rfl
          have hcl : (caps [n0]).length = ps.length := HL.out.symm
          rw [hcl] at hcp ⊢
          have hz : ((ps.length : Nat) : Int) = 1 := by rw [HL.out]; rfl
          have hcq : ((ps.length : Nat) : Int) ≤ (cp : Int) := by omega
          clear hcell HNl hnl hcl HNs
          have hsh : Op.shift .shr .u64 4294967296 .i64 0 = pure (.int .u64 4294967296) := by rw [shift_shr_u64 .i64 4294967296 0 (by decide) (by decide), show (4294967296 : Int) / 2 ^ (0 : Int).toNat = 4294967296 by decide]
          by_cases hb : n0 < 4294967296
          · have HP : Hid (R = put7 0 16777216 [n0]) := HPr.out
            have hcn : cap9 n0 = n0 := by unfold cap9; omega
            rw [hcn] at c0
            have hde : decide ((4294967296 : Int) ≤ (n0 : Int)) = false := decide_eq_false (by omega)
            clear hcn HPr
            go_wp2
            have HQ := Lib.hid (hb)
            clear hz hcq hsh hde hb
            go_loopw [11, 60] (fun v11 i wx => ∃ (k h a : Nat) (z : Int), k ≤ 0 ∧ z = k ∧ i = .int .i64 z ∧ v11 = .int .u64 (a : Int) ∧ a = h + n0 ∧ wx = wr ∧ h % (256 * q7 k) = 0 ∧ h + 256 * q7 k ≤ 4294967296 ∧ R = put7 h (q7 k) ([n0].drop k)) (fun _ i _ => 0 - (intOf i).toNat)
            case atStart => exact ⟨0, 0, n0, 0, by omega, rfl, rfl, rfl, by omega, rfl, rfl, by decide, HP.out⟩
            case round =>
              obtain ⟨k, h, a, z, hk, hz, rfl, rfl, ha, hwx, hm, hle, hput⟩ := hrel
              have hw' := hwx.symm
              subst hw'
              have HA := Lib.hid ha
              have HM := Lib.hid hm
              have HLe := Lib.hid hle
              have HPu := Lib.hid hput
              clear hwx ha hm hle hput HP
              obtain rfl : k = 0 := by omega
              obtain rfl : z = 0 := hz
              have HP0 : Hid (R = put7 h 16777216 [n0]) := HPu.out
              have HN : Hid (R = (0, a)) := by
                show R = (0, a)
                rw [HP0.out, HA.out]
                unfold put7
                rw [if_pos HQ.out]
              have hal : a < 4294967296 := by
                have h1 := HA.out
                have h2 : h + 256 * 16777216 ≤ 4294967296 := HLe.out
                have h3 := HQ.out
                omega
              clear hk
              go_wp2
              go_ret2
              rw [HN.out]
              exact ⟨rfl, bnext7 HB.out HBl.out⟩
          · have HN : Hid (R = (3, 0)) := by
              show R = (3, 0)
              rw [HPr.out]
              unfold put7
              rw [if_neg (by omega)]
            have hcm : 4294967296 ≤ cap9 n0 := by unfold cap9; omega
            have hcn := cap9_le n0
            generalize cap9 n0 = m at hcm hcn c0
            have hde : decide ((4294967296 : Int) ≤ (m : Int)) = true := decide_eq_true (by omega)
            clear HPr hb
            go_wp2_with (go_at_call 20; refine (wrap7_any 3 _).mono ?_
                         rintro e w4 ⟨cs, u, x, rfl, hch, hb⟩
                         have HC := Lib.hid hch
                         have HBl := Lib.hid (HBl.out.trans (hb.mono HBl.out.size))
                         clear hch hb)
            go_ret2
            rw [HN.out]
            exact ⟨cs, u, x, rfl, HC.out, bnext7 HB.out HBl.out⟩
        · have HNl : Hid (∃ n0 n1, ns = [n0, n1]) := by
            match ns, hnl with
            | [a0, a1], _ => exact ⟨a0, a1, rfl⟩
          obtain ⟨n0, n1, rfl⟩ := HNl.out
          obtain ⟨g, cp, rfl, hcp, hgl, hcell⟩ := HMu.out.some (by simp [caps])
          have HMu := 0
          have c0 := hcell 0 (cap9 n0) rfl
          have c1 := hcell 1 (cap9 n1) rfl
          have hcl : (caps [n0, n1]).length = ps.length := HL.out.symm
          rw [hcl] at hcp ⊢
          have hz : ((ps.length : Nat) : Int) = 2 := by rw [HL.out]; rfl
          have hcq : ((ps.length : Nat) : Int) ≤ (cp : Int) := by omega
          clear hcell HNl hnl hcl HNs
          have hsh : Op.shift .shr .u64 4294967296 .i64 8 = pure (.int .u64 16777216) := by rw [shift_shr_u64 .i64 4294967296 8 (by decide) (by decide), show (4294967296 : Int) / 2 ^ (8 : Int).toNat = 16777216 by decide]
          by_cases hb : n1 < 16777216
          · have HP : Hid (R = put7 0 16777216 [n0, n1]) := HPr.out
            have hcn : cap9 n1 = n1 := by unfold cap9; omega
            rw [hcn] at c1
            have hde : decide ((16777216 : Int) ≤ (n1 : Int)) = false := decide_eq_false (by omega)
            clear hcn HPr
            go_wp2
            have HQ := Lib.hid (hb)
            clear hz hcq hsh hde hb
            go_loopw [11, 60] (fun v11 i wx => ∃ (k h a : Nat) (z : Int), k ≤ 1 ∧ z = k ∧ i = .int .i64 z ∧ v11 = .int .u64 (a : Int) ∧ a = h + n1 ∧ wx = wr ∧ h % (256 * q7 k) = 0 ∧ h + 256 * q7 k ≤ 4294967296 ∧ R = put7 h (q7 k) ([n0, n1].drop k)) (fun _ i _ => 1 - (intOf i).toNat)
            case atStart => exact ⟨0, 0, n1, 0, by omega, rfl, rfl, rfl, by omega, rfl, rfl, by decide, HP.out⟩
            case round =>
              obtain ⟨k, h, a, z, hk, hz, rfl, rfl, ha, hwx, hm, hle, hput⟩ := hrel
              have hw' := hwx.symm
              subst hw'
              have HA := Lib.hid ha
              have HM := Lib.hid hm
              have HLe := Lib.hid hle
              have HPu := Lib.hid hput
              clear hwx ha hm hle hput HP
              by_cases hk0 : k = 0
              · subst hk0
                obtain rfl : z = 0 := hz
                clear hk
                have HP0 : Hid (R = put7 h 16777216 (n0 :: [n1])) := HPu.out
                by_cases hn : n0 ≤ 255
                · have hcn : cap9 n0 = n0 := by unfold cap9; omega
                  rw [hcn] at c0
                  have hde : decide ((255 : Int) < (n0 : Int)) = false := decide_eq_false (by omega)
                  have HM1 : Hid (h % (256 * 16777216) = 0) := HM.out
                  have HL1 : Hid (h + 256 * 16777216 ≤ 4294967296) := HLe.out
                  have hal : a < 4294967296 := by have h1 := HA.out; have h2 := HL1.out; have h3 := HQ.out; omega
                  have HOr : Hid (bits .or .u64 (a : Int) ((n0 : Int) * 16777216) = ((h + n0 * 16777216 + n1 : Nat) : Int)) := by
                    have e1 := bits_or_u64_nat a (n0 * 16777216) (by omega) (by omega)
                    have e2 := or_add7 24 h n1 n0 HM1.out (by have := HQ.out; show n1 < 16777216; omega) hn
                    show bits .or .u64 (a : Int) ((n0 : Int) * 16777216) = _
                    have e3 : ((n0 : Int) * 16777216) = ((n0 * 16777216 : Nat) : Int) := by omega
                    rw [e3, e1, HA.out]
                    exact congrArg Int.ofNat e2
                  have HP1 : Hid (R = put7 (h + n0 * 16777216) 65536 [n1]) := by
                    show R = _
                    rw [HP0.out, put7_more (by simp), if_pos hn]
                  have HM2 : Hid ((h + n0 * 16777216) % (256 * 65536) = 0) := by
                    have := HM1.out
                    show (h + n0 * 16777216) % (256 * 65536) = 0
                    omega
                  have HL2 : Hid (h + n0 * 16777216 + 256 * 65536 ≤ 4294967296) := by
                    have := HL1.out
                    show h + n0 * 16777216 + 256 * 65536 ≤ 4294967296
                    omega
                  clear hcn
                  go_wp2
                  go_roundw
                  case rel => exact ⟨1, h + n0 * 16777216, h + n0 * 16777216 + n1, 1, by omega, rfl, rfl, by rw [HOr.out], rfl, by first | rfl | trivial, HM2.out, HL2.out, HP1.out⟩
                  case measure => simp [intOf]
                · have HN : Hid (R = (3, 0)) := by
                    show R = (3, 0)
                    rw [HP0.out, put7_more (by simp), if_neg hn]
                  have hcm : 256 ≤ cap9 n0 := by unfold cap9; omega
                  have hcn := cap9_le n0
                  generalize cap9 n0 = m at hcm hcn c0
                  have hde : decide ((255 : Int) < (m : Int)) = true := decide_eq_true (by omega)
                  clear hn
                  go_wp2_with (go_at_call 20; refine (wrap7_any 3 _).mono ?_
                               rintro e w4 ⟨cs, u, x, rfl, hch, hb⟩
                               have HC := Lib.hid hch
                               have HBl := Lib.hid (HBl.out.trans (hb.mono HBl.out.size))
                               clear hch hb)
                  go_ret2
                  rw [HN.out]
                  exact ⟨cs, u, x, rfl, HC.out, bnext7 HB.out HBl.out⟩
              · skip
                obtain rfl : k = 1 := by omega
                obtain rfl : z = 1 := hz
                have HP0 : Hid (R = put7 h 65536 [n1]) := HPu.out
                have HN : Hid (R = (0, a)) := by
                  show R = (0, a)
                  rw [HP0.out, HA.out]
                  unfold put7
                  rw [if_pos HQ.out]
                have hal : a < 4294967296 := by
                  have h1 := HA.out
                  have h2 : h + 256 * 65536 ≤ 4294967296 := HLe.out
                  have h3 := HQ.out
                  omega
                clear hk
                go_wp2
                go_ret2
                rw [HN.out]
                exact ⟨rfl, bnext7 HB.out HBl.out⟩
          · have HN : Hid (R = (3, 0)) := by
              show R = (3, 0)
              rw [HPr.out]
              unfold put7
              split <;> try rfl
              unfold put7
              rw [if_neg (by omega)]
            have hcm : 16777216 ≤ cap9 n1 := by unfold cap9; omega
            have hcn := cap9_le n1
            generalize cap9 n1 = m at hcm hcn c1
            have hde : decide ((16777216 : Int) ≤ (m : Int)) = true := decide_eq_true (by omega)
            clear HPr hb
            go_wp2_with (go_at_call 20; refine (wrap7_any 3 _).mono ?_
                         rintro e w4 ⟨cs, u, x, rfl, hch, hb⟩
                         have HC := Lib.hid hch
                         have HBl := Lib.hid (HBl.out.trans (hb.mono HBl.out.size))
                         clear hch hb)
            go_ret2
            rw [HN.out]
            exact ⟨cs, u, x, rfl, HC.out, bnext7 HB.out HBl.out⟩
        · have HNl : Hid (∃ n0 n1 n2, ns = [n0, n1, n2]) := by
            match ns, hnl with
            | [a0, a1, a2], _ => exact ⟨a0, a1, a2, rfl⟩
          obtain ⟨n0, n1, n2, rfl⟩ := HNl.out
          obtain ⟨g, cp, rfl, hcp, hgl, hcell⟩ := HMu.out.some (by simp [caps])
          have HMu := 0
          have c0 := hcell 0 (cap9 n0) rfl
          have c1 := hcell 1 (cap9 n1) rfl
          have c2 := hcell 2 (cap9 n2) rfl
          have hcl : (caps [n0, n1, n2]).length = ps.length := HL.out.symm
          rw [hcl] at hcp ⊢
          have hz : ((ps.length : Nat) : Int) = 3 := by rw [HL.out]; rfl
          have hcq : ((ps.length : Nat) : Int) ≤ (cp : Int) := by omega
          clear hcell HNl hnl hcl HNs
          have hsh : Op.shift .shr .u64 4294967296 .i64 16 = pure (.int .u64 65536) := by rw [shift_shr_u64 .i64 4294967296 16 (by decide) (by decide), show (4294967296 : Int) / 2 ^ (16 : Int).toNat = 65536 by decide]
          by_cases hb : n2 < 65536
          · have HP : Hid (R = put7 0 16777216 [n0, n1, n2]) := HPr.out
            have hcn : cap9 n2 = n2 := by unfold cap9; omega
            rw [hcn] at c2
            have hde : decide ((65536 : Int) ≤ (n2 : Int)) = false := decide_eq_false (by omega)
            clear hcn HPr
            go_wp2
            have HQ := Lib.hid (hb)
            clear hz hcq hsh hde hb
            go_loopw [11, 60] (fun v11 i wx => ∃ (k h a : Nat) (z : Int), k ≤ 2 ∧ z = k ∧ i = .int .i64 z ∧ v11 = .int .u64 (a : Int) ∧ a = h + n2 ∧ wx = wr ∧ h % (256 * q7 k) = 0 ∧ h + 256 * q7 k ≤ 4294967296 ∧ R = put7 h (q7 k) ([n0, n1, n2].drop k)) (fun _ i _ => 2 - (intOf i).toNat)
            case atStart => exact ⟨0, 0, n2, 0, by omega, rfl, rfl, rfl, by omega, rfl, rfl, by decide, HP.out⟩
            case round =>
              obtain ⟨k, h, a, z, hk, hz, rfl, rfl, ha, hwx, hm, hle, hput⟩ := hrel
              have hw' := hwx.symm
              subst hw'
              have HA := Lib.hid ha
              have HM := Lib.hid hm
              have HLe := Lib.hid hle
              have HPu := Lib.hid hput
              clear hwx ha hm hle hput HP
              by_cases hk0 : k = 0
              · subst hk0
                obtain rfl : z = 0 := hz
                clear hk
                have HP0 : Hid (R = put7 h 16777216 (n0 :: [n1, n2])) := HPu.out
                by_cases hn : n0 ≤ 255
                · have hcn : cap9 n0 = n0 := by unfold cap9; omega
                  rw [hcn] at c0
                  have hde : decide ((255 : Int) < (n0 : Int)) = false := decide_eq_false (by omega)
                  have HM1 : Hid (h % (256 * 16777216) = 0) := HM.out
                  have HL1 : Hid (h + 256 * 16777216 ≤ 4294967296) := HLe.out
                  have hal : a < 4294967296 := by have h1 := HA.out; have h2 := HL1.out; have h3 := HQ.out; omega
                  have HOr : Hid (bits .or .u64 (a : Int) ((n0 : Int) * 16777216) = ((h + n0 * 16777216 + n2 : Nat) : Int)) := by
                    have e1 := bits_or_u64_nat a (n0 * 16777216) (by omega) (by omega)
                    have e2 := or_add7 24 h n2 n0 HM1.out (by have := HQ.out; show n2 < 16777216; omega) hn
                    show bits .or .u64 (a : Int) ((n0 : Int) * 16777216) = _
                    have e3 : ((n0 : Int) * 16777216) = ((n0 * 16777216 : Nat) : Int) := by omega
                    rw [e3, e1, HA.out]
                    exact congrArg Int.ofNat e2
                  have HP1 : Hid (R = put7 (h + n0 * 16777216) 65536 [n1, n2]) := by
                    show R = _
                    rw [HP0.out, put7_more (by simp), if_pos hn]
                  have HM2 : Hid ((h + n0 * 16777216) % (256 * 65536) = 0) := by
                    have := HM1.out
                    show (h + n0 * 16777216) % (256 * 65536) = 0
                    omega
                  have HL2 : Hid (h + n0 * 16777216 + 256 * 65536 ≤ 4294967296) := by
                    have := HL1.out
                    show h + n0 * 16777216 + 256 * 65536 ≤ 4294967296
                    omega
                  clear hcn
                  go_wp2
                  go_roundw
                  case rel => exact ⟨1, h + n0 * 16777216, h + n0 * 16777216 + n2, 1, by omega, rfl, rfl, by rw [HOr.out], rfl, by first | rfl | trivial, HM2.out, HL2.out, HP1.out⟩
                  case measure => simp [intOf]
                · have HN : Hid (R = (3, 0)) := by
                    show R = (3, 0)
                    rw [HP0.out, put7_more (by simp), if_neg hn]
                  have hcm : 256 ≤ cap9 n0 := by unfold cap9; omega
                  have hcn := cap9_le n0
                  generalize cap9 n0 = m at hcm hcn c0
                  have hde : decide ((255 : Int) < (m : Int)) = true := decide_eq_true (by omega)
                  clear hn
                  go_wp2_with (go_at_call 20; refine (wrap7_any 3 _).mono ?_
                               rintro e w4 ⟨cs, u, x, rfl, hch, hb⟩
                               have HC := Lib.hid hch
                               have HBl := Lib.hid (HBl.out.trans (hb.mono HBl.out.size))
                               clear hch hb)
                  go_ret2
                  rw [HN.out]
                  exact ⟨cs, u, x, rfl, HC.out, bnext7 HB.out HBl.out⟩
              · skip
                by_cases hk1 : k = 1
                · subst hk1
                  obtain rfl : z = 1 := hz
                  clear hk
                  have HP0 : Hid (R = put7 h 65536 (n1 :: [n2])) := HPu.out
                  by_cases hn : n1 ≤ 255
                  · have hcn : cap9 n1 = n1 := by unfold cap9; omega
                    rw [hcn] at c1
                    have hde : decide ((255 : Int) < (n1 : Int)) = false := decide_eq_false (by omega)
                    have HM1 : Hid (h % (256 * 65536) = 0) := HM.out
                    have HL1 : Hid (h + 256 * 65536 ≤ 4294967296) := HLe.out
                    have hal : a < 4294967296 := by have h1 := HA.out; have h2 := HL1.out; have h3 := HQ.out; omega
                    have HOr : Hid (bits .or .u64 (a : Int) ((n1 : Int) * 65536) = ((h + n1 * 65536 + n2 : Nat) : Int)) := by
                      have e1 := bits_or_u64_nat a (n1 * 65536) (by omega) (by omega)
                      have e2 := or_add7 16 h n2 n1 HM1.out (by have := HQ.out; show n2 < 65536; omega) hn
                      show bits .or .u64 (a : Int) ((n1 : Int) * 65536) = _
                      have e3 : ((n1 : Int) * 65536) = ((n1 * 65536 : Nat) : Int) := by omega
                      rw [e3, e1, HA.out]
                      exact congrArg Int.ofNat e2
                    have HP1 : Hid (R = put7 (h + n1 * 65536) 256 [n2]) := by
                      show R = _
                      rw [HP0.out, put7_more (by simp), if_pos hn]
                    have HM2 : Hid ((h + n1 * 65536) % (256 * 256) = 0) := by
                      have := HM1.out
                      show (h + n1 * 65536) % (256 * 256) = 0
                      omega
                    have HL2 : Hid (h + n1 * 65536 + 256 * 256 ≤ 4294967296) := by
                      have := HL1.out
                      show h + n1 * 65536 + 256 * 256 ≤ 4294967296
                      omega
                    clear hcn
                    go_wp2
                    go_roundw
                    case rel => exact ⟨2, h + n1 * 65536, h + n1 * 65536 + n2, 2, by omega, rfl, rfl, by rw [HOr.out], rfl, by first | rfl | trivial, HM2.out, HL2.out, HP1.out⟩
                    case measure => simp [intOf]
                  · have HN : Hid (R = (3, 0)) := by
                      show R = (3, 0)
                      rw [HP0.out, put7_more (by simp), if_neg hn]
                    have hcm : 256 ≤ cap9 n1 := by unfold cap9; omega
                    have hcn := cap9_le n1
                    generalize cap9 n1 = m at hcm hcn c1
                    have hde : decide ((255 : Int) < (m : Int)) = true := decide_eq_true (by omega)
                    clear hn
                    go_wp2_with (go_at_call 20; refine (wrap7_any 3 _).mono ?_
                                 rintro e w4 ⟨cs, u, x, rfl, hch, hb⟩
                                 have HC := Lib.hid hch
                                 have HBl := Lib.hid (HBl.out.trans (hb.mono HBl.out.size))
                                 clear hch hb)
                    go_ret2
                    rw [HN.out]
                    exact ⟨cs, u, x, rfl, HC.out, bnext7 HB.out HBl.out⟩
                · skip
                  obtain rfl : k = 2 := by omega
                  obtain rfl : z = 2 := hz
                  have HP0 : Hid (R = put7 h 256 [n2]) := HPu.out
                  have HN : Hid (R = (0, a)) := by
                    show R = (0, a)
                    rw [HP0.out, HA.out]
                    unfold put7
                    rw [if_pos HQ.out]
                  have hal : a < 4294967296 := by
                    have h1 := HA.out
                    have h2 : h + 256 * 256 ≤ 4294967296 := HLe.out
                    have h3 := HQ.out
                    omega
                  clear hk
                  go_wp2
                  go_ret2
                  rw [HN.out]
                  exact ⟨rfl, bnext7 HB.out HBl.out⟩
          · have HN : Hid (R = (3, 0)) := by
              show R = (3, 0)
              rw [HPr.out]
              unfold put7
              split <;> try rfl
              unfold put7
              split <;> try rfl
              unfold put7
              rw [if_neg (by omega)]
            have hcm : 65536 ≤ cap9 n2 := by unfold cap9; omega
            have hcn := cap9_le n2
            generalize cap9 n2 = m at hcm hcn c2
            have hde : decide ((65536 : Int) ≤ (m : Int)) = true := decide_eq_true (by omega)
            clear HPr hb
            go_wp2_with (go_at_call 20; refine (wrap7_any 3 _).mono ?_
                         rintro e w4 ⟨cs, u, x, rfl, hch, hb⟩
                         have HC := Lib.hid hch
                         have HBl := Lib.hid (HBl.out.trans (hb.mono HBl.out.size))
                         clear hch hb)
            go_ret2
            rw [HN.out]
            exact ⟨cs, u, x, rfl, HC.out, bnext7 HB.out HBl.out⟩
        · have HNl : Hid (∃ n0 n1 n2 n3, ns = [n0, n1, n2, n3]) := by
            match ns, hnl with
            | [a0, a1, a2, a3], _ => exact ⟨a0, a1, a2, a3, rfl⟩
          obtain ⟨n0, n1, n2, n3, rfl⟩ := HNl.out
          obtain ⟨g, cp, rfl, hcp, hgl, hcell⟩ := HMu.out.some (by simp [caps])
          have HMu := 0
          have c0 := hcell 0 (cap9 n0) rfl
          have c1 := hcell 1 (cap9 n1) rfl
          have c2 := hcell 2 (cap9 n2) rfl
          have c3 := hcell 3 (cap9 n3) rfl
          have hcl : (caps [n0, n1, n2, n3]).length = ps.length := HL.out.symm
          rw [hcl] at hcp ⊢
          have hz : ((ps.length : Nat) : Int) = 4 := by rw [HL.out]; rfl
          have hcq : ((ps.length : Nat) : Int) ≤ (cp : Int) := by omega
          clear hcell HNl hnl hcl HNs
          have hsh : Op.shift .shr .u64 4294967296 .i64 24 = pure (.int .u64 256) := by rw [shift_shr_u64 .i64 4294967296 24 (by decide) (by decide), show (4294967296 : Int) / 2 ^ (24 : Int).toNat = 256 by decide]
          by_cases hb : n3 < 256
          · have HP : Hid (R = put7 0 16777216 [n0, n1, n2, n3]) := HPr.out
            have hcn : cap9 n3 = n3 := by unfold cap9; omega
            rw [hcn] at c3
            have hde : decide ((256 : Int) ≤ (n3 : Int)) = false := decide_eq_false (by omega)
            clear hcn HPr
            go_wp2
            have HQ := Lib.hid (hb)
            clear hz hcq hsh hde hb
            go_loopw [11, 60] (fun v11 i wx => ∃ (k h a : Nat) (z : Int), k ≤ 3 ∧ z = k ∧ i = .int .i64 z ∧ v11 = .int .u64 (a : Int) ∧ a = h + n3 ∧ wx = wr ∧ h % (256 * q7 k) = 0 ∧ h + 256 * q7 k ≤ 4294967296 ∧ R = put7 h (q7 k) ([n0, n1, n2, n3].drop k)) (fun _ i _ => 3 - (intOf i).toNat)
            case atStart => exact ⟨0, 0, n3, 0, by omega, rfl, rfl, rfl, by omega, rfl, rfl, by decide, HP.out⟩
            case round =>
              obtain ⟨k, h, a, z, hk, hz, rfl, rfl, ha, hwx, hm, hle, hput⟩ := hrel
              have hw' := hwx.symm
              subst hw'
              have HA := Lib.hid ha
              have HM := Lib.hid hm
              have HLe := Lib.hid hle
              have HPu := Lib.hid hput
              clear hwx ha hm hle hput HP
              by_cases hk0 : k = 0
              · subst hk0
                obtain rfl : z = 0 := hz
                clear hk
                have HP0 : Hid (R = put7 h 16777216 (n0 :: [n1, n2, n3])) := HPu.out
                by_cases hn : n0 ≤ 255
                · have hcn : cap9 n0 = n0 := by unfold cap9; omega
                  rw [hcn] at c0
                  have hde : decide ((255 : Int) < (n0 : Int)) = false := decide_eq_false (by omega)
                  have HM1 : Hid (h % (256 * 16777216) = 0) := HM.out
                  have HL1 : Hid (h + 256 * 16777216 ≤ 4294967296) := HLe.out
                  have hal : a < 4294967296 := by have h1 := HA.out; have h2 := HL1.out; have h3 := HQ.out; omega
                  have HOr : Hid (bits .or .u64 (a : Int) ((n0 : Int) * 16777216) = ((h + n0 * 16777216 + n3 : Nat) : Int)) := by
                    have e1 := bits_or_u64_nat a (n0 * 16777216) (by omega) (by omega)
                    have e2 := or_add7 24 h n3 n0 HM1.out (by have := HQ.out; show n3 < 16777216; omega) hn
                    show bits .or .u64 (a : Int) ((n0 : Int) * 16777216) = _
                    have e3 : ((n0 : Int) * 16777216) = ((n0 * 16777216 : Nat) : Int) := by omega
                    rw [e3, e1, HA.out]
                    exact congrArg Int.ofNat e2
                  have HP1 : Hid (R = put7 (h + n0 * 16777216) 65536 [n1, n2, n3]) := by
                    show R = _
                    rw [HP0.out, put7_more (by simp), if_pos hn]
                  have HM2 : Hid ((h + n0 * 16777216) % (256 * 65536) = 0) := by
                    have := HM1.out
                    show (h + n0 * 16777216) % (256 * 65536) = 0
                    omega
                  have HL2 : Hid (h + n0 * 16777216 + 256 * 65536 ≤ 4294967296) := by
                    have := HL1.out
                    show h + n0 * 16777216 + 256 * 65536 ≤ 4294967296
                    omega
                  clear hcn
                  go_wp2
                  go_roundw
                  case rel => exact ⟨1, h + n0 * 16777216, h + n0 * 16777216 + n3, 1, by omega, rfl, rfl, by rw [HOr.out], rfl, by first | rfl | trivial, HM2.out, HL2.out, HP1.out⟩
                  case measure => simp [intOf]
                · have HN : Hid (R = (3, 0)) := by
                    show R = (3, 0)
                    rw [HP0.out, put7_more (by simp), if_neg hn]
                  have hcm : 256 ≤ cap9 n0 := by unfold cap9; omega
                  have hcn := cap9_le n0
                  generalize cap9 n0 = m at hcm hcn c0
                  have hde : decide ((255 : Int) < (m : Int)) = true := decide_eq_true (by omega)
                  clear hn
                  go_wp2_with (go_at_call 20; refine (wrap7_any 3 _).mono ?_
                               rintro e w4 ⟨cs, u, x, rfl, hch, hb⟩
                               have HC := Lib.hid hch
                               have HBl := Lib.hid (HBl.out.trans (hb.mono HBl.out.size))
                               clear hch hb)
                  go_ret2
                  rw [HN.out]
                  exact ⟨cs, u, x, rfl, HC.out, bnext7 HB.out HBl.out⟩
              · skip
                by_cases hk1 : k = 1
                · subst hk1
                  obtain rfl : z = 1 := hz
                  clear hk
                  have HP0 : Hid (R = put7 h 65536 (n1 :: [n2, n3])) := HPu.out
                  by_cases hn : n1 ≤ 255
                  · have hcn : cap9 n1 = n1 := by unfold cap9; omega
                    rw [hcn] at c1
                    have hde : decide ((255 : Int) < (n1 : Int)) = false := decide_eq_false (by omega)
                    have HM1 : Hid (h % (256 * 65536) = 0) := HM.out
                    have HL1 : Hid (h + 256 * 65536 ≤ 4294967296) := HLe.out
                    have hal : a < 4294967296 := by have h1 := HA.out; have h2 := HL1.out; have h3 := HQ.out; omega
                    have HOr : Hid (bits .or .u64 (a : Int) ((n1 : Int) * 65536) = ((h + n1 * 65536 + n3 : Nat) : Int)) := by
                      have e1 := bits_or_u64_nat a (n1 * 65536) (by omega) (by omega)
                      have e2 := or_add7 16 h n3 n1 HM1.out (by have := HQ.out; show n3 < 65536; omega) hn
                      show bits .or .u64 (a : Int) ((n1 : Int) * 65536) = _
                      have e3 : ((n1 : Int) * 65536) = ((n1 * 65536 : Nat) : Int) := by omega
                      rw [e3, e1, HA.out]
                      exact congrArg Int.ofNat e2
                    have HP1 : Hid (R = put7 (h + n1 * 65536) 256 [n2, n3]) := by
                      show R = _
                      rw [HP0.out, put7_more (by simp), if_pos hn]
                    have HM2 : Hid ((h + n1 * 65536) % (256 * 256) = 0) := by
                      have := HM1.out
                      show (h + n1 * 65536) % (256 * 256) = 0
                      omega
                    have HL2 : Hid (h + n1 * 65536 + 256 * 256 ≤ 4294967296) := by
                      have := HL1.out
                      show h + n1 * 65536 + 256 * 256 ≤ 4294967296
                      omega
                    clear hcn
                    go_wp2
                    go_roundw
                    case rel => exact ⟨2, h + n1 * 65536, h + n1 * 65536 + n3, 2, by omega, rfl, rfl, by rw [HOr.out], rfl, by first | rfl | trivial, HM2.out, HL2.out, HP1.out⟩
                    case measure => simp [intOf]
                  · have HN : Hid (R = (3, 0)) := by
                      show R = (3, 0)
                      rw [HP0.out, put7_more (by simp), if_neg hn]
                    have hcm : 256 ≤ cap9 n1 := by unfold cap9; omega
                    have hcn := cap9_le n1
                    generalize cap9 n1 = m at hcm hcn c1
                    have hde : decide ((255 : Int) < (m : Int)) = true := decide_eq_true (by omega)
                    clear hn
                    go_wp2_with (go_at_call 20; refine (wrap7_any 3 _).mono ?_
                                 rintro e w4 ⟨cs, u, x, rfl, hch, hb⟩
                                 have HC := Lib.hid hch
                                 have HBl := Lib.hid (HBl.out.trans (hb.mono HBl.out.size))
                                 clear hch hb)
                    go_ret2
                    rw [HN.out]
                    exact ⟨cs, u, x, rfl, HC.out, bnext7 HB.out HBl.out⟩
                · skip
                  by_cases hk2 : k = 2
                  · subst hk2
                    obtain rfl : z = 2 := hz
                    clear hk
                    have HP0 : Hid (R = put7 h 256 (n2 :: [n3])) := HPu.out
                    by_cases hn : n2 ≤ 255
                    · have hcn : cap9 n2 = n2 := by unfold cap9; omega
                      rw [hcn] at c2
                      have hde : decide ((255 : Int) < (n2 : Int)) = false := decide_eq_false (by omega)
                      have HM1 : Hid (h % (256 * 256) = 0) := HM.out
                      have HL1 : Hid (h + 256 * 256 ≤ 4294967296) := HLe.out
                      have hal : a < 4294967296 := by have h1 := HA.out; have h2 := HL1.out; have h3 := HQ.out; omega
                      have HOr : Hid (bits .or .u64 (a : Int) ((n2 : Int) * 256) = ((h + n2 * 256 + n3 : Nat) : Int)) := by
                        have e1 := bits_or_u64_nat a (n2 * 256) (by omega) (by omega)
                        have e2 := or_add7 8 h n3 n2 HM1.out (by have := HQ.out; show n3 < 256; omega) hn
                        show bits .or .u64 (a : Int) ((n2 : Int) * 256) = _
                        have e3 : ((n2 : Int) * 256) = ((n2 * 256 : Nat) : Int) := by omega
                        rw [e3, e1, HA.out]
                        exact congrArg Int.ofNat e2
                      have HP1 : Hid (R = put7 (h + n2 * 256) 1 [n3]) := by
                        show R = _
                        rw [HP0.out, put7_more (by simp), if_pos hn]
                      have HM2 : Hid ((h + n2 * 256) % (256 * 1) = 0) := by
                        have := HM1.out
                        show (h + n2 * 256) % (256 * 1) = 0
                        omega
                      have HL2 : Hid (h + n2 * 256 + 256 * 1 ≤ 4294967296) := by
                        have := HL1.out
                        show h + n2 * 256 + 256 * 1 ≤ 4294967296
                        omega
                      clear hcn
                      go_wp2
                      go_roundw
                      case rel => exact ⟨3, h + n2 * 256, h + n2 * 256 + n3, 3, by omega, rfl, rfl, by rw [HOr.out], rfl, by first | rfl | trivial, HM2.out, HL2.out, HP1.out⟩
                      case measure => simp [intOf]
                    · have HN : Hid (R = (3, 0)) := by
                        show R = (3, 0)
                        rw [HP0.out, put7_more (by simp), if_neg hn]
                      have hcm : 256 ≤ cap9 n2 := by unfold cap9; omega
                      have hcn := cap9_le n2
                      generalize cap9 n2 = m at hcm hcn c2
                      have hde : decide ((255 : Int) < (m : Int)) = true := decide_eq_true (by omega)
                      clear hn
                      go_wp2_with (go_at_call 20; refine (wrap7_any 3 _).mono ?_
                                   rintro e w4 ⟨cs, u, x, rfl, hch, hb⟩
                                   have HC := Lib.hid hch
                                   have HBl := Lib.hid (HBl.out.trans (hb.mono HBl.out.size))
                                   clear hch hb)
                      go_ret2
                      rw [HN.out]
                      exact ⟨cs, u, x, rfl, HC.out, bnext7 HB.out HBl.out⟩
                  · skip
                    obtain rfl : k = 3 := by omega
                    obtain rfl : z = 3 := hz
                    have HP0 : Hid (R = put7 h 1 [n3]) := HPu.out
                    have HN : Hid (R = (0, a)) := by
                      show R = (0, a)
                      rw [HP0.out, HA.out]
                      unfold put7
                      rw [if_pos HQ.out]
                    have hal : a < 4294967296 := by
                      have h1 := HA.out
                      have h2 : h + 256 * 1 ≤ 4294967296 := HLe.out
                      have h3 := HQ.out
                      omega
                    clear hk
                    go_wp2
                    go_ret2
                    rw [HN.out]
                    exact ⟨rfl, bnext7 HB.out HBl.out⟩
          · have HN : Hid (R = (3, 0)) := by
              show R = (3, 0)
              rw [HPr.out]
              unfold put7
              split <;> try rfl
              unfold put7
              split <;> try rfl
              unfold put7
              split <;> try rfl
              unfold put7
              rw [if_neg (by omega)]
            have hcm : 256 ≤ cap9 n3 := by unfold cap9; omega
            have hcn := cap9_le n3
            generalize cap9 n3 = m at hcm hcn c3
            have hde : decide ((256 : Int) ≤ (m : Int)) = true := decide_eq_true (by omega)
            clear HPr hb
            go_wp2_with (go_at_call 20; refine (wrap7_any 3 _).mono ?_
                         rintro e w4 ⟨cs, u, x, rfl, hch, hb⟩
                         have HC := Lib.hid hch
                         have HBl := Lib.hid (HBl.out.trans (hb.mono HBl.out.size))
                         clear hch hb)
            go_ret2
            rw [HN.out]
            exact ⟨cs, u, x, rfl, HC.out, bnext7 HB.out HBl.out⟩
  · rw [if_neg h4]
    have H4 := Lib.hid h4
    clear h4 hlen
    go_enter Tryd.func9, Tryd.ntmps9
    go_wp2_with (first
      | (go_at_call 19; refine (ztrim_any _ _ hs).mono ?_; rintro e w1 ⟨t, rfl, ht, hb⟩; have hts := ztrim_len s t ht; rw [← ht] at H4; have HB := Lib.hid hb; clear ht hb)
      | (go_at_call 18; refine (zsplit_any _ _ (by omega)).mono ?_
         rintro e w2 ⟨A, c, rfl, hcap, hstr, hb⟩
         rw [spl5_many H4.out]
         have HB := Lib.hid (bnext7 HB.out hb)
         clear hstr hb hcap)
      | (go_at_call 20; refine (wrap7_any 2 _).mono ?_
         rintro e w3 ⟨cs, u, x, rfl, hch, hb⟩
         have HC := Lib.hid hch
         have HB := Lib.hid (bnext7 HB.out hb)
         clear hch hb))
    go_ret2
    exact ⟨cs, u, x, rfl, HC.out, HB.out⟩
end Go.Proofs.YtbdedjokahopmaaDoor

/-
  The program's Parse, Text and Ends of layer 7 do as the document says.
-/
namespace Go.Proofs.YtbdedjokahopmaaDoor
open Go.RowKit
theorem ipC (w0 : World) (hp : Pow w0) : IpC w0 :=
  ⟨fun s w _ hs => zparse_any s w (by omega), fun a w hw ha => ztext_any a w ha (hp.below hw), fun s w _ hs => zends_any s w (by omega)⟩
end Go.Proofs.YtbdedjokahopmaaDoor

/-
  IpfourForms, walked over the program's contracts: whatever the input, true.
-/
namespace Go.Proofs.YtbdedjokahopmaaDoor
open Go.RowKit

theorem btx_dec {n : Nat} (h : ¬ n < 10) {f : UInt8} (hf : UInt8.ofNat (48 + n % 10) = f) : btx (dec10 n) = btx (dec10 (n / 10)) ++ btx [f] := by
  rw [← btx_append]
  congr 1
  conv => lhs; unfold dec10
  rw [if_neg h, hf]
theorem btx_fig {n : Nat} (h : n < 10) {f : UInt8} (hf : UInt8.ofNat (48 + n) = f) : btx (dec10 n) = btx [f] := by
  congr 1
  unfold dec10
  rw [if_pos h, hf]

theorem conv_at (W : World) (g : Nat) (b : UInt8) (hc : W.cell? ⟨g, 0, none⟩ = some (.int .u8 (b.toNat : Int))) :
    (convert 51 9 (.slice (some ⟨g, 0, none⟩) 1 1)).run Tryd.prog W = .ok (.string (btx [b])) W :=
  run_convert_bytes_back W _ _ _ ⟨g, 0, none⟩ 1 [b] Tryd.underlying51 Tryd.underlying5 Tryd.underlying9 (fun j hj => by
    obtain rfl : j = 0 := by simp at hj; omega
    simpa [Addr.add] using hc)

theorem conv_kept {W w1 : World} {g : Nat} {b : UInt8} (hc : W.cell? ⟨g, 0, none⟩ = some (.int .u8 (b.toNat : Int))) (h : Below W.heap.size W w1) :
    (convert 51 9 (.slice (some ⟨g, 0, none⟩) 1 1)).run Tryd.prog w1 = .ok (.string (btx [b])) w1 := by
  refine conv_at w1 g b ((h.cell (p := ⟨g, 0, none⟩) ?_).trans hc)
  rcases Nat.lt_or_ge g W.heap.size with h' | h'
  · exact h'
  · simp [World.cell?, Array.getElem?_eq_none h'] at hc

theorem bw1 {w w1 : World} (h : Below w.drew.heap.size w.drew w1) : Below w.heap.size w w1 := (below_drewN (Below.refl _ w) 1).trans h
theorem bw2 {w w1 : World} {o : Obj} (h : Below (w.alloc o).drew.heap.size (w.alloc o).drew w1) : Below w.heap.size w w1 :=
  ((Below.refl _ w).alloc (Nat.le_refl _) o).trans ((bw1 h).mono (by simp))
theorem bw3 {w w1 : World} {o : Obj} (h : Below (w.drew.alloc o).heap.size (w.drew.alloc o) w1) : Below w.heap.size w w1 :=
  bw1 (((Below.refl _ w.drew).alloc (Nat.le_refl _) o).trans (h.mono (by simp)))
theorem bw4 {w w1 : World} {o : Obj} (h : Below (w.alloc o).heap.size (w.alloc o) w1) : Below w.heap.size w w1 :=
  ((Below.refl _ w).alloc (Nat.le_refl _) o).trans (h.mono (by simp))

set_option maxHeartbeats 2000000 in
set_option maxRecDepth 100000 in
theorem num10_small (n : Nat) (w : World) (hn : n < 10) :
    Calls Tryd.prog 17 #[.int .u32 (n : Int)] w (TextPost7 (btx (dec10 n)) w) := by
  obtain ⟨f, hf⟩ : ∃ f, UInt8.ofNat (48 + n) = f := ⟨_, rfl⟩
  have HR := Lib.hid (btx_fig hn hf)
  have g : 48 + (n : Int) = (f.toNat : Int) := by rw [← hf]; exact fig7 hn rfl
  have e := f.toNat_lt
  have hcv := conv_one w w.heap.size rfl (f.toNat : Int) f rfl
  clear hf
  go_enter Tryd.func17, Tryd.ntmps17
  go_wp2
  go_ret
  exact ⟨by rw [HR.out]; rfl, (Below.refl _ _).alloc (Nat.le_refl _) _⟩

set_option maxHeartbeats 400000 in
set_option maxRecDepth 100000 in
theorem num10_more (n : Nat) (w : World) (hn : ¬ n < 10) (hb : n < 4294967296) (ih : ∀ w, Calls Tryd.prog 17 #[.int .u32 ((n / 10 : Nat) : Int)] w (TextPost7 (btx (dec10 (n / 10))) w)) :
    Calls Tryd.prog 17 #[.int .u32 (n : Int)] w (TextPost7 (btx (dec10 n)) w) := by
  obtain ⟨f, hf⟩ : ∃ f, UInt8.ofNat (48 + n % 10) = f := ⟨_, rfl⟩
  have HR := Lib.hid (btx_dec hn hf)
  have hl : (btx (dec10 (n / 10))).size ≤ 10 := by rw [btx_size]; exact dec10_len 9 (by omega)
  obtain ⟨t, ht⟩ : ∃ t, btx (dec10 (n / 10)) = t := ⟨_, rfl⟩
  rw [ht] at HR ih hl
  have g : 48 + (n : Int) % 10 = (f.toNat : Int) := by rw [← hf]; exact fig7 (by omega) (by omega)
  have e := f.toNat_lt
  obtain ⟨q, hq⟩ : ∃ q, n / 10 = q := ⟨_, rfl⟩
  rw [hq] at ih
  have hqi : (n : Int) / 10 = (q : Int) := by omega
  have hql : q < 4294967296 := by omega
  have HIh := Lib.hid ih
  have hf1 : (btx [f]).size = 1 := by rw [btx_size]; rfl
  clear hf ih ht hq
  go_enter Tryd.func17, Tryd.ntmps17
  go_wp2_with fail
  have hd1 : (n : Int).tdiv 10 = (q : Int) := by rw [Int.tdiv_eq_ediv_of_nonneg (by omega)]; exact hqi
  obtain ⟨r, hr⟩ : ∃ r, n % 10 = r := ⟨_, rfl⟩
  have hr1 : r < 10 := by omega
  have hd2 : (n : Int).tmod 10 = (r : Int) := by rw [Int.tmod_eq_emod_of_nonneg (by omega)]; omega
  have hd3 : (n : Int) % 10 = (r : Int) := by omega
  have g' : 48 + (r : Int) = (f.toNat : Int) := by omega
  have hw1 : IntKind.u32.wrap (q : Int) = (q : Int) := by simp [IntKind.wrap, IntKind.bits, IntKind.signed]; omega
  have hw2 : IntKind.u32.wrap (r : Int) = (r : Int) := by simp [IntKind.wrap, IntKind.bits, IntKind.signed]; omega
  have hw3 : IntKind.u32.wrap (f.toNat : Int) = (f.toNat : Int) := by simp [IntKind.wrap, IntKind.bits, IntKind.signed]; omega
  have hw4 : IntKind.u8.wrap (f.toNat : Int) = (f.toNat : Int) := by simp [IntKind.wrap, IntKind.bits, IntKind.signed]; omega
  have hcv := conv_one w w.heap.size rfl (f.toNat : Int) f rfl
  have hcv2 := conv_one w.drew w.heap.size rfl (f.toNat : Int) f rfl
  have c1 : (w.drew.alloc (.cells #[.int .u8 (f.toNat : Int)] 5)).cell? ⟨w.heap.size, 0, none⟩ = some (.int .u8 (f.toNat : Int)) := World.cell?_alloc_at _ _ _ _ rfl
  have c2 : (w.alloc (.cells #[.int .u8 (f.toNat : Int)] 5)).drew.cell? ⟨w.heap.size, 0, none⟩ = some (.int .u8 (f.toNat : Int)) := World.cell?_alloc_at (w := w) _ _ _ _ rfl
  have c3 : (w.alloc (.cells #[.int .u8 (f.toNat : Int)] 5)).cell? ⟨w.heap.size, 0, none⟩ = some (.int .u8 (f.toNat : Int)) := World.cell?_alloc_at _ _ _ _ rfl
  have hcv6 := conv_at _ _ _ c2
  clear hr g hn
  go_region_with (first
    | (go_at_call 17; (with_reducible refine (HIh.out _).mono ?_); rintro e w1 ⟨rfl, hb1⟩; (first | have HB1 := Lib.hid (bw1 (w := w) hb1) | have HB1 := Lib.hid (bw2 (w := w) hb1) | have HB1 := Lib.hid (bw3 (w := w) hb1) | have HB1 := Lib.hid (bw4 (w := w) hb1)); have hcv3 := conv_one w1 w1.heap.size rfl (f.toNat : Int) f rfl; (first | have hcv4 := conv_kept c1 hb1 | have hcv4 := conv_kept c2 hb1 | have hcv4 := conv_kept c3 hb1 | skip); clear hb1))
  all_goals
    go_wp2
    go_ret
    refine ⟨by rw [HR.out]; rfl, ?_⟩
    first
    | exact HB1.out
    | exact HB1.out.alloc HB1.out.size _
theorem num10_any : ∀ (n : Nat) (w : World), n < 4294967296 → Calls Tryd.prog 17 #[.int .u32 (n : Int)] w (TextPost7 (btx (dec10 n)) w) := by
  intro n
  induction n using Nat.strongRecOn with
  | ind n ih =>
    intro w hn
    by_cases h : n < 10
    · exact num10_small n w h
    · exact num10_more n w h hn (fun w => ih (n / 10) (by omega) w (by omega))
theorem num10_is {n : Nat} {t : ByteArray} (h : btx (dec10 n) = t) (hn : n < 4294967296) (w : World) : Calls Tryd.prog 17 #[.int .u32 (n : Int)] w fun e w' => e = .returned (.string t) ∧ Below w.heap.size w w' := by
  have := num10_any n w hn
  rw [h] at this
  exact this
end Go.Proofs.YtbdedjokahopmaaDoor

/-
  IpfourForms, walked over the program's contracts: whatever the input, true.
-/
namespace Go.Proofs.YtbdedjokahopmaaDoor
open Go.RowKit

theorem dec10_ten {n : Nat} (h : n < 4294967296) : (dec10 n).length ≤ 10 := dec10_len 9 (by omega)
set_option maxHeartbeats 4000000 in
set_option maxRecDepth 100000 in
theorem law_forms7 (a : Int) (b : Int) (w : World) (h0 : 0 ≤ a) (h1 : a ≤ 4294967295) (h2 : 0 ≤ b) (h3 : b ≤ 255) (C : IpC w) : Calls Tryd.prog 7 #[.int .u32 a, .int .u8 b] w (Yes7 w) := by
  obtain ⟨n, rfl⟩ : ∃ n : Nat, a = n := ⟨a.toNat, by omega⟩
  obtain ⟨m, rfl⟩ : ∃ m : Nat, b = m := ⟨b.toNat, by omega⟩
  have hn : n < 4294967296 := by omega
  have hm : m < 256 := by omega
  have hm2 : m < 4294967296 := by omega
  have HC := Lib.hid C
  clear C h0 h1 h2 h3
  obtain ⟨c, hc⟩ : ∃ c, n % 16777216 = c := ⟨_, rfl⟩
  obtain ⟨d, hd⟩ : ∃ d, n % 65536 = d := ⟨_, rfl⟩
  have hc1 : c < 16777216 := by omega
  have hd1 : d < 65536 := by omega
  have hc2 : c < 4294967296 := by omega
  have hd2 : d < 4294967296 := by omega
  have hci : (n : Int) % 16777216 = (c : Int) := by omega
  have hdi : (n : Int) % 65536 = (d : Int) := by omega
  obtain ⟨ta, hta⟩ : ∃ t, btx (dec10 n) = t := ⟨_, rfl⟩
  obtain ⟨tb, htb⟩ : ∃ t, btx (dec10 m) = t := ⟨_, rfl⟩
  obtain ⟨tc, htc⟩ : ∃ t, btx (dec10 c) = t := ⟨_, rfl⟩
  obtain ⟨td, htd⟩ : ∃ t, btx (dec10 d) = t := ⟨_, rfl⟩
  have HTa := Lib.hid hta
  have HTb := Lib.hid htb
  have HTc := Lib.hid htc
  have HTd := Lib.hid htd
  have la : ta.size ≤ 10 := by rw [← hta, btx_size]; exact dec10_ten hn
  have lb : tb.size ≤ 10 := by rw [← htb, btx_size]; exact dec10_ten hm2
  have lc : tc.size ≤ 10 := by rw [← htc, btx_size]; exact dec10_ten hc2
  have ld : td.size ≤ 10 := by rw [← htd, btx_size]; exact dec10_ten hd2
  obtain ⟨V2, hV2⟩ : ∃ V, m * 16777216 + c = V := ⟨_, rfl⟩
  obtain ⟨V3, hV3⟩ : ∃ V, m * 16777216 + 65536 + d = V := ⟨_, rfl⟩
  have P1 := Lib.hid (show parse7 ta.data.toList = (0, n) by rw [← hta]; exact form_one hn)
  have P2 := Lib.hid (show parse7 (tb ++ ⟨#[46]⟩ ++ tc : ByteArray).data.toList = (0, V2) by
    rw [show (tb ++ ⟨#[46]⟩ ++ tc : ByteArray).data.toList = dec10 m ++ 46 :: dec10 c by
      rw [ByteArray.data_append, Array.toList_append, ByteArray.data_append, Array.toList_append, ← htb, ← htc]; simp [btx]]
    rw [form_two hm hc1, hV2])
  have P3 := Lib.hid (show parse7 (tb ++ ⟨#[46, 48, 120, 49, 46]⟩ ++ td : ByteArray).data.toList = (0, V3) by
    rw [show (tb ++ ⟨#[46, 48, 120, 49, 46]⟩ ++ td : ByteArray).data.toList = dec10 m ++ 46 :: ([48, 120, 49] ++ 46 :: dec10 d) by
      rw [ByteArray.data_append, Array.toList_append, ByteArray.data_append, Array.toList_append, ← htb, ← htd]; simp [btx]]
    rw [form_three hm hd1, hV3])
  have Z2 := Lib.hid (show (tb ++ ⟨#[46]⟩ ++ tc : ByteArray).size ≤ 200 by rw [ByteArray.size_append, ByteArray.size_append]; show tb.size + 1 + tc.size ≤ 200; omega)
  have Z3 := Lib.hid (show (tb ++ ⟨#[46, 48, 120, 49, 46]⟩ ++ td : ByteArray).size ≤ 200 by rw [ByteArray.size_append, ByteArray.size_append]; show tb.size + 5 + td.size ≤ 200; omega)
  have e2 : (m : Int) * 16777216 + (c : Int) = (V2 : Int) := by omega
  have e3 : (m : Int) * 16777216 + 65536 + (d : Int) = (V3 : Int) := by omega
  have v2 : V2 < 4294967296 := by omega
  have v3 : V3 < 4294967296 := by omega
  clear hta htb htc htd hc hd hV2 hV3
  go_enter Tryd.func7, Tryd.ntmps7
  go_wp2_with (first
    | (go_at_call 8; refine (awake7 HC.out).mono ?_; rintro e w1 ⟨rfl, hb⟩; have HB := Lib.hid hb; clear hb)
    | (go_at_call 17; (with_reducible refine (num10_is HTa.out hn _).mono ?_); rintro e w2 ⟨rfl, hb⟩; have HB := Lib.hid (bnext7 HB.out hb); clear hb)
    | (go_at_call 17; (with_reducible refine (num10_is HTb.out hm2 _).mono ?_); rintro e w3 ⟨rfl, hb⟩; have HB := Lib.hid (bnext7 HB.out hb); clear hb)
    | (go_at_call 17; (with_reducible refine (num10_is HTc.out hc2 _).mono ?_); rintro e w4 ⟨rfl, hb⟩; have HB := Lib.hid (bnext7 HB.out hb); clear hb)
    | (go_at_call 17; (with_reducible refine (num10_is HTd.out hd2 _).mono ?_); rintro e w5 ⟨rfl, hb⟩; have HB := Lib.hid (bnext7 HB.out hb); clear hb)
    | (go_at_call 9; (with_reducible refine (parse_ok HC.out P1.out (by omega) _ HB.out).mono ?_); rintro e w6 ⟨rfl, hb⟩; have HB := Lib.hid (bnext7 HB.out hb); clear hb)
    | (go_at_call 9; (with_reducible refine (parse_ok HC.out P2.out Z2.out _ HB.out).mono ?_); rintro e w7 ⟨rfl, hb⟩; have HB := Lib.hid (bnext7 HB.out hb); clear hb)
    | (go_at_call 9; (with_reducible refine (parse_ok HC.out P3.out Z3.out _ HB.out).mono ?_); rintro e w8 ⟨rfl, hb⟩; have HB := Lib.hid (bnext7 HB.out hb); clear hb))
  go_ret
  exact ⟨rfl, HB.out⟩
end Go.Proofs.YtbdedjokahopmaaDoor

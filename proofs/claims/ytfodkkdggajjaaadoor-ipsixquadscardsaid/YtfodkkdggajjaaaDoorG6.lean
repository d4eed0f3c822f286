/-
  In this text, one behind the other: SixJoin, SixRun, SixText, SixCon, YSame, YLawsA, YEight, YDec, YLawsQ.
-/
import Derived.Lib.Join
import Derived.Deep.LoopGhost
import Derived.WalkMore
import Derived.DeepKeys
import Derived.Deep.RegionWith
import Derived.Test.YtfodkkdggajjaaaDoorG5
import Derived.Test.YtfodkkdggajjaaaDoorG3
import Derived.Test.YtfodkkdggajjaaaDoorG1
import Derived.Test.YtfodkkdggajjaaaDoorG2
import Derived.Test.YtfodkkdggajjaaaDoorG4
/-
  The program's join of layer 8, by its contract.
-/
namespace Go.Proofs.YtfodkkdggajjaaaDoor
open Go.RowKit Go.Shelf

set_option maxHeartbeats 1000000 in
theorem fmtI_any (n : Nat) (hn : n < 65536) (w : World) (hv : V8 w) :
    Calls Tryd.prog 30 #[.int .u64 (n : Int), .int .i64 16] w fun e w' => e = .returned (.string (btx (hex8 n))) ∧ Below w.heap.size w w' := by
  have HV := Lib.hid hv
  clear hv
  go_enter Tryd.func30, Tryd.ntmps30
  go_wp2_with (go_at_call 42; refine (fmt_any n hn _ HV.out).mono ?_; rintro e w1 ⟨rfl, hb⟩; have HB := Lib.hid hb; clear hb)
  go_ret
  exact ⟨rfl, HB.out⟩
theorem fmtP_any (n : Nat) (hn : n < 65536) (w : World) (hv : V8 w) :
    Calls Tryd.prog 23 #[.int .u64 (n : Int), .int .i64 16] w fun e w' => e = .returned (.string (btx (hex8 n))) ∧ Below w.heap.size w w' := by
  have HV := Lib.hid hv
  clear hv
  go_enter Tryd.func23, Tryd.ntmps23
  go_wp2_with (go_at_call 30; refine (fmtI_any n hn _ HV.out).mono ?_; rintro e w1 ⟨rfl, hb⟩; have HB := Lib.hid hb; clear hb)
  go_ret
  exact ⟨rfl, HB.out⟩

theorem joinExtra : Builder.Extra Tryd.prog lays156_ren := {
  sizeBuilder := by kernel_rfl
  liesBuilder := by kernel_rfl
  t5 := Tryd.underlying5
  a5 := Tryd.isAgg5
  z5 := Tryd.sizeOf5
  v5 := Tryd.zeroValue5
  infoByte := by kernel_rfl
  cellsByte := by kernel_rfl
  sizeByte := by kernel_rfl
  neB5 := by decide }
theorem join8_lib : ∀ c : List Nat, Lib.join (c.map hex8) [58] = join8 c := by
  intro c
  induction c with
  | nil => rfl
  | cons n l ih =>
    cases l with
    | nil => simp [Lib.join_one, join8]
    | cons m l =>
      rw [join8, ← ih]
      simp [Lib.join, List.intercalate]
theorem joinS_any {w : World} {B : Nat} {v : Value} {c : List Nat} (h : MadeS B w v (c.map hex8)) (hc : c.length ≤ 8) (h6 : ∀ n ∈ c, n < 65536) :
    Calls Tryd.prog 24 #[v, .string ⟨#[58]⟩] w fun e w' => e = .returned (.string (btx (join8 c))) ∧ Below w.heap.size w w' := by
  obtain ⟨A, cap, rfl, hcap, hstr⟩ := h.strs
  cases c with
  | nil =>
    refine (Any.strings_Join_none lays156 joinExtra A cap ⟨#[58]⟩ w).mono ?_
    rintro e w' ⟨rfl, rfl⟩
    exact ⟨rfl, Below.refl _ _⟩
  | cons n l =>
    obtain ⟨b, off, rfl, hb, _⟩ := hstr 0 (btx (hex8 n)) rfl
    have hl : (((n :: l).map hex8).map btx).length = ((n :: l).map hex8).length := List.length_map ..
    have hj : (((n :: l).map hex8).map btx).map (·.data.toList) = (n :: l).map hex8 := by
      rw [List.map_map]
      exact List.map_id _
    have h5 := (join8_len (n :: l) h6).1
    have hs := Any.strings_Join lays156 joinExtra b off cap (((n :: l).map hex8).map btx) ⟨#[58]⟩ w (fun j x hx => by
      obtain ⟨b', off', e, _, h2⟩ := hstr j x hx
      cases e
      exact h2) hb (by rw [hl, List.length_map]; omega) (by rw [hl]; exact hcap) (by
      rw [hj]
      show (Lib.join ((n :: l).map hex8) [58]).length ≤ _
      rw [join8_lib]
      omega)
    rw [hl] at hs
    refine hs.mono ?_
    rintro e w' ⟨rfl, hbw⟩
    refine ⟨?_, hbw⟩
    rw [hj]
    show Ending.returned (.string ⟨(Lib.join ((n :: l).map hex8) [58]).toArray⟩) = _
    rw [join8_lib]
    rfl
theorem take_map8 {c : List Nat} {k n : Nat} (hx : c[k]? = some n) : (c.take (k + 1)).map hex8 = (c.take k).map hex8 ++ [hex8 n] := by
  rw [List.take_add_one, hx, List.map_append]
  rfl
set_option maxHeartbeats 2000000 in
set_option maxRecDepth 100000 in
theorem join_any (g off cap : Nat) (c : List Nat) (w : World) (hv : V8 w) (hc : c.length ≤ 8) (h6 : ∀ n ∈ c, n < 65536) (hcells : ∀ (j x : Nat), c[j]? = some x → w.cell? ⟨g, off + j, none⟩ = some (.int .u16 (x : Int))) :
    Calls Tryd.prog 15 #[.slice (some ⟨g, off, none⟩) c.length cap] w fun e w' => e = .returned (.string (btx (join8 c))) ∧ Below w.heap.size w w' := by
  have HV := Lib.hid hv
  have HC := Lib.hid hcells
  have H6 := Lib.hid h6
  clear hv hcells h6
  go_enter Tryd.func15, Tryd.ntmps15
  go_wp2
  go_loopw [3, 8] (fun v i wr => ∃ k : Nat, k ≤ c.length ∧ i = .int .i64 k ∧ MadeS w.heap.size wr v ((c.take k).map hex8) ∧ Below w.heap.size w wr) (fun _ i _ => c.length - (intOf i).toNat)
  case atStart => exact ⟨0, by omega, rfl, World.ownsRow_nil _ _ _ _, Below.refl _ _⟩
  case round =>
    obtain ⟨k, hk, rfl, hms, hbl⟩ := hrel
    have hsz := hbl.size
    have HMs := Lib.hid hms
    have HBl := Lib.hid hbl
    have HVr := Lib.hid (HV.out.below hbl)
    clear hms hbl
    by_cases hlt : k < c.length
    · have hx := List.getElem?_eq_getElem hlt
      have hx6 := H6.out _ (List.getElem_mem hlt)
      obtain ⟨x, hxx⟩ : ∃ x, c[k] = x := ⟨_, rfl⟩
      rw [hxx] at hx hx6
      have hc0 := HC.out k x hx
      have hcell := (HBl.out.cell (p := ⟨g, off + k, none⟩) (cell_lt8 hc0)).trans hc0
      have HTk := Lib.hid (take_map8 hx)
      clear hxx hx hc0
      go_wp2_with (first
        | (go_at_call 23; refine (fmtP_any x hx6 _ HVr.out).mono ?_; rintro e w1 ⟨rfl, hb⟩; have HM1 := Lib.hid (HMs.out.below hb); have HB1 := Lib.hid (bnx8 HBl.out hb); clear hb)
        | (at_builtin; refine append_text rfl (.tmp 12) (.tmp 16) rfl w.heap.size _ _ (hex8 x) _ rfl rfl rfl HM1.out (by rw [List.length_map, List.length_take]; omega) HB1.out.size ?_; intro v2 w2 hm2 hb2; have HM2 := Lib.hid hm2; have HB2 := Lib.hid (HB1.out.trans hb2); clear hm2 hb2))
      go_roundw
      case rel => exact ⟨k + 1, by omega, by go_num, by rw [HTk.out]; exact HM2.out, HB2.out⟩
      case measure => simp [intOf]; omega
    · obtain rfl : k = c.length := by omega
      have hm := HMs.out
      rw [List.take_length] at hm
      have HM1 := Lib.hid hm
      clear hm
      go_wp2_with (go_at_call 24; (with_reducible refine (joinS_any HM1.out hc H6.out).mono ?_); rintro e w1 ⟨rfl, hb⟩; have HB1 := Lib.hid (bnx8 HBl.out hb); clear hb)
      go_ret
      exact ⟨rfl, HB1.out⟩
end Go.Proofs.YtfodkkdggajjaaaDoor

/-
  The program's longestRun of layer 8, by its contract.
-/
namespace Go.Proofs.YtfodkkdggajjaaaDoor
open Go.RowKit

/-- The longest run among the first i places. -/
def Lr (l : List Nat) (i B E : Nat) : Prop := B = bst8 l i ∧ E = B + (if i = 0 then 0 else run8 (l.drop B))
theorem Lr.zero (l : List Nat) : Lr l 0 0 0 := ⟨rfl, rfl⟩
theorem Lr.next {l : List Nat} {i B E r : Nat} (h : Lr l i B E) (hr : run8 (l.drop i) = r) : Lr l (i + 1) (if E - B < r then i else B) (if E - B < r then i + r else E) := by
  obtain ⟨rfl, rfl⟩ := h
  unfold Lr
  rw [bst8_succ, hr]
  by_cases h0 : i = 0
  · subst h0
    rw [bst8_zero] at *
    simp only [if_true, Nat.add_zero, Nat.sub_self, Nat.zero_add, ite_self]
    refine ⟨trivial, ?_⟩
    rw [if_neg (show ¬ (0 + 1 = 0) by omega), hr]
    split <;> omega
  · rw [if_neg h0, if_neg (show ¬ (i + 1 = 0) by omega), Nat.add_sub_cancel_left]
    by_cases hlt : run8 (l.drop (bst8 l i)) < r
    · simp only [if_pos hlt, hr, and_self]
    · simp only [if_neg hlt, and_self]
theorem Lr.last {l : List Nat} {i B E : Nat} (h : Lr l (i + 1) B E) (hl : l.length = 8) (hi : i < 8) (hz : run8 (l.drop i) = 8 - i) : Lr l 8 B E := by
  obtain ⟨rfl, rfl⟩ := h
  have hle : l.length - i ≤ run8 (l.drop (bst8 l (i + 1))) := by
    rw [bst8_succ]
    split
    · omega
    · omega
  have e := bst8_rest l i hle (8 - (i + 1))
  rw [show i + 1 + (8 - (i + 1)) = 8 by omega] at e
  unfold Lr
  rw [e, if_neg (by omega), if_neg (by decide)]
  exact ⟨rfl, rfl⟩
theorem Lr.bound {l : List Nat} {i B E : Nat} (h : Lr l i B E) (hl : l.length = 8) (hi : i ≤ 8) : B ≤ E ∧ E ≤ 8 := by
  obtain ⟨rfl, rfl⟩ := h
  have h1 := bst8_le l i
  have h2 := run8_drop l (bst8 l i)
  split <;> omega
/-- What is known inside the search from a place on. -/
def Inn (B E i j B' E' : Nat) : Prop := B' = (if E - B < j - i then i else B) ∧ E' = (if E - B < j - i then j else E)
theorem Inn.zero (B E i : Nat) : Inn B E i i B E := by
  unfold Inn
  rw [Nat.sub_self, if_neg (by omega), if_neg (by omega)]
  exact ⟨rfl, rfl⟩
theorem Inn.yes {B E i j B' E' : Nat} (h : Inn B E i j B' E') (hg : E' - B' < j + 1 - i) : Inn B E i (j + 1) i (j + 1) := by
  obtain ⟨rfl, rfl⟩ := h
  unfold Inn
  have : E - B < j + 1 - i := by
    split at hg
    · omega
    · omega
  rw [if_pos this, if_pos this]
  exact ⟨rfl, rfl⟩
theorem Inn.no {B E i j B' E' : Nat} (h : Inn B E i j B' E') (hij : i ≤ j) (hBE : B ≤ E) (hg : ¬ E' - B' < j + 1 - i) : Inn B E i (j + 1) B' E' := by
  obtain ⟨rfl, rfl⟩ := h
  unfold Inn
  by_cases hlt : E - B < j - i
  · exfalso
    rw [if_pos hlt, if_pos hlt] at hg
    omega
  · rw [if_neg hlt, if_neg hlt] at hg ⊢
    rw [if_neg hg, if_neg hg]
    exact ⟨rfl, rfl⟩
theorem Inn.bound {B E i j B' E' : Nat} (h : Inn B E i j B' E') (hij : i ≤ j) (hj : j ≤ 8) (hBE : B ≤ E) (hE : E ≤ 8) : B' ≤ E' ∧ E' ≤ 8 := by
  obtain ⟨rfl, rfl⟩ := h
  split <;> omega
theorem Inn.done {l : List Nat} {B E i j B' E' : Nat} (h : Inn B E i j B' E') (hij : i ≤ j) (hL : Lr l i B E) (hr : run8 (l.drop i) = j - i) : Lr l (i + 1) B' E' := by
  obtain ⟨rfl, rfl⟩ := h
  have := hL.next hr
  rw [show i + (j - i) = j by omega] at this
  exact this

set_option maxHeartbeats 4000000 in
set_option maxRecDepth 100000 in
theorem lrun_any (a0 a1 a2 a3 a4 a5 a6 a7 : Nat) (w : World) (hl : ∀ n ∈ [a0, a1, a2, a3, a4, a5, a6, a7], n < 65536) :
    Calls Tryd.prog 14 #[addr8 a0 a1 a2 a3 a4 a5 a6 a7] w fun e w' => ∃ B E : Nat, e = .returned (.tuple #[.int .i64 (B : Int), .int .i64 (E : Int)]) ∧ Lr [a0, a1, a2, a3, a4, a5, a6, a7] 8 B E ∧ Below w.heap.size w w' := by
  have HC := Lib.hid (eight_at (a0 := a0) (a1 := a1) (a2 := a2) (a3 := a3) (a4 := a4) (a5 := a5) (a6 := a6) (a7 := a7) w 23)
  obtain ⟨l, hll⟩ : ∃ l, [a0, a1, a2, a3, a4, a5, a6, a7] = l := ⟨_, rfl⟩
  have hlen : l.length = 8 := by rw [← hll]; rfl
  have HLen := Lib.hid hlen
  rw [hll] at HC hl ⊢
  have HL := Lib.hid hl
  clear hll hlen hl
  unfold addr8
  go_enter Tryd.func14, Tryd.ntmps14
  go_wp2
  obtain ⟨W, hW⟩ : ∃ W, w.alloc (.cells #[.int .u16 (a0 : Int), .int .u16 (a1 : Int), .int .u16 (a2 : Int), .int .u16 (a3 : Int), .int .u16 (a4 : Int), .int .u16 (a5 : Int), .int .u16 (a6 : Int), .int .u16 (a7 : Int)] 23) = W := ⟨_, rfl⟩
  have HB : Hid (Below w.heap.size w W) := by show Below w.heap.size w W; rw [← hW]; exact (Below.refl _ _).alloc (Nat.le_refl _) _
  rw [hW] at HC ⊢
  clear hW
  go_step3
  go_wp2
  go_step3
  go_wp2
  go_loopg [2, 3, 6] 8 (fun kk v2 v3 v6 wr => ∃ i B E : Nat, kk = 8 - i ∧ i ≤ 8 ∧ v2 = .int .i64 (B : Int) ∧ v3 = .int .i64 (E : Int) ∧ v6 = .int .i64 (i : Int) ∧ wr = W ∧ Hid (Lr l i B E))
  case atStart => exact ⟨0, 0, 0, rfl, by omega, rfl, rfl, rfl, rfl, Lib.hid (Lr.zero l)⟩
  case round =>
    obtain ⟨i, B, E, hk1, hi, rfl, rfl, rfl, hw, HR⟩ := hrel
    have hw' := hw.symm
    subst hw'
    clear hw
    obtain ⟨hBE, hE8⟩ := HR.out.bound HLen.out hi
    by_cases hi8 : i < 8
    · have hdec : decide ((i : Int) < 8) = true := decide_eq_true (by omega)
      go_wp2
      go_loopg [2, 3, 5] (8 - i) (fun kk v2 v3 v5 wr2 => ∃ j B' E' : Nat, kk = 8 - j ∧ i ≤ j ∧ j ≤ 8 ∧ v2 = .int .i64 (B' : Int) ∧ v3 = .int .i64 (E' : Int) ∧ v5 = .int .i64 (j : Int) ∧ wr2 = W ∧ Hid (Inn B E i j B' E') ∧ Hid (∀ q, q < j - i → (l.drop i)[q]? = some 0))
      case atStart => exact ⟨i, B, E, rfl, Nat.le_refl _, by omega, rfl, rfl, rfl, rfl, Lib.hid (Inn.zero B E i), Lib.hid (fun q hq => by omega)⟩
      case round =>
        obtain ⟨j, B', E', hk2, hij, hj, rfl, rfl, rfl, hw, HI, HZ⟩ := hrel
        have hw' := hw.symm
        subst hw'
        clear hw
        obtain ⟨hBE', hE8'⟩ := HI.out.bound hij hj hBE hE8
        by_cases hj8 : j < 8
        · have hc := HC.out j hj8
          have HG := Lib.hid (getD_at8 (l := l) (k := j) (by rw [HLen.out]; exact hj8))
          obtain ⟨x, hx⟩ : ∃ x, l.getD j 0 = x := ⟨_, rfl⟩
          rw [hx] at hc HG
          clear hx
          by_cases hx0 : x = 0
          · subst hx0
            have HZ2 : Hid (∀ q, q < j + 1 - i → (l.drop i)[q]? = some 0) := by
              show ∀ q, q < j + 1 - i → (l.drop i)[q]? = some 0
              intro q hq
              rcases Nat.lt_or_ge q (j - i) with h | h
              · exact HZ.out q h
              · obtain rfl : q = j - i := by omega
                rw [List.getElem?_drop, show i + (j - i) = j by omega]; exact HG.out
            by_cases hgt : E' - B' < j + 1 - i
            · have hgi : (E' : Int) - (B' : Int) < (j : Int) + 1 - (i : Int) := by omega
              have HI2 := Lib.hid (HI.out.yes hgt)
              clear hgt
              go_wp2
              go_roundg (8 - (j + 1))
              case rel => exact ⟨j + 1, i, j + 1, rfl, by omega, by omega, by first | rfl | trivial, by go_num, by go_num, by first | rfl | trivial, HI2, HZ2⟩
              case measure => omega
            · have hgi : ¬ ((E' : Int) - (B' : Int) < (j : Int) + 1 - (i : Int)) := by omega
              have HI2 := Lib.hid (HI.out.no hij hBE hgt)
              clear hgt
              go_wp2
              go_roundg (8 - (j + 1))
              case rel => exact ⟨j + 1, B', E', rfl, by omega, by omega, by first | rfl | trivial, by first | rfl | trivial, by go_num, by first | rfl | trivial, HI2, HZ2⟩
              case measure => omega
          · have hx1 : ((x : Int) != 0) = true := bne_iff_ne.2 (by omega)
            have HRr := Lib.hid (run8_is (k := j - i) HZ.out (.inr ⟨x, by rw [List.getElem?_drop, show i + (j - i) = j by omega]; exact HG.out, hx0⟩))
            have HR2 := Lib.hid (HI.out.done hij HR.out HRr.out)
            go_wp2
            go_roundg (8 - (i + 1))
            case rel => exact ⟨i + 1, B', E', rfl, by omega, by first | rfl | trivial, by first | rfl | trivial, by go_num, by first | rfl | trivial, HR2⟩
            case measure => omega
        · obtain rfl : j = 8 := by omega
          have HRr := Lib.hid (run8_is (k := 8 - i) HZ.out (.inl (by rw [List.length_drop, HLen.out])))
          have HR2 := Lib.hid ((HI.out.done hij HR.out HRr.out).last HLen.out hi8 HRr.out)
          go_wp2
          first | rw [Exit.noGoto_ret] | skip
          go_ret2
          exact ⟨B', E', rfl, HR2.out, HB.out⟩
    · obtain rfl : i = 8 := by omega
      go_wp2
      first | rw [Exit.noGoto_ret] | skip
      go_ret2
      exact ⟨B, E, rfl, HR.out, HB.out⟩
end Go.Proofs.YtfodkkdggajjaaaDoor

/-
  The program's Text of layer 8, by its contract.
-/
namespace Go.Proofs.YtfodkkdggajjaaaDoor
open Go.RowKit

theorem RowU.heap8 {t : TypeId} {W W' : World} {g : Nat} {c : List Nat} (h : RowU t W g c) (hh : W'.heap = W.heap) : RowU t W' g c := by
  unfold RowU
  rw [hh]
  exact h
theorem join_is {g off m cap : Nat} {c : List Nat} (hm : c.length = m) (w : World) (hv : V8 w) (hc : c.length ≤ 8) (h6 : ∀ n ∈ c, n < 65536) (hcells : ∀ (j x : Nat), c[j]? = some x → w.cell? ⟨g, off + j, none⟩ = some (.int .u16 (x : Int))) :
    Calls Tryd.prog 15 #[.slice (some ⟨g, off, none⟩) m cap] w fun e w' => e = .returned (.string (btx (join8 c))) ∧ Below w.heap.size w w' := by
  subst hm
  exact join_any g off cap c w hv hc h6 hcells
theorem text_by {l : List Nat} {B E : Nat} (h : Lr l 8 B E) : text8 l = if E - B < 2 then join8 l else join8 (l.take B) ++ 58 :: 58 :: join8 (l.drop E) := by
  obtain ⟨rfl, rfl⟩ := h
  rw [if_neg (show ¬ (8 = 0) by decide), Nat.add_sub_cancel_left]
  rfl
theorem btx3 (x y : List UInt8) : btx x ++ ⟨#[58, 58]⟩ ++ btx y = btx (x ++ 58 :: 58 :: y) := by
  have h1 : (⟨#[58, 58]⟩ : ByteArray) = btx [58, 58] := rfl
  rw [h1, ← btx_app8, ← btx_app8]
  simp
theorem row_from {t : TypeId} {w : World} {g : Nat} {l : List Nat} (h : RowU t w g l) (k : Nat) : ∀ (j x : Nat), (l.drop k)[j]? = some x → w.cell? ⟨g, k + j, none⟩ = some (.int .u16 (x : Int)) := by
  intro j x hx
  rw [List.getElem?_drop] at hx
  exact (h.at hx).1
theorem row_to {t : TypeId} {w : World} {g : Nat} {l : List Nat} (h : RowU t w g l) (k : Nat) : ∀ (j x : Nat), (l.take k)[j]? = some x → w.cell? ⟨g, 0 + j, none⟩ = some (.int .u16 (x : Int)) := by
  intro j x hx
  rw [List.getElem?_take] at hx
  split at hx
  · rw [Nat.zero_add]; exact (h.at hx).1
  · cases hx
theorem row_all {t : TypeId} {w : World} {g : Nat} {l : List Nat} (h : RowU t w g l) : ∀ (j x : Nat), l[j]? = some x → w.cell? ⟨g, 0 + j, none⟩ = some (.int .u16 (x : Int)) := by
  intro j x hx
  rw [Nat.zero_add]; exact (h.at hx).1
theorem no_mem8 : ∀ n ∈ ([] : List Nat), n < 65536 := fun n h => by cases h
theorem no_cell8 {w : World} {g off : Nat} : ∀ (j x : Nat), ([] : List Nat)[j]? = some x → w.cell? ⟨g, off + j, none⟩ = some (.int .u16 (x : Int)) := fun j x h => by cases h
theorem join_nil8 {g off cap : Nat} (w : World) (hv : V8 w) : Calls Tryd.prog 15 #[.slice (some ⟨g, off, none⟩) 0 cap] w fun e w' => e = .returned (.string (btx (join8 []))) ∧ Below w.heap.size w w' := join_any g off cap [] w hv (Nat.zero_le _) no_mem8 no_cell8
theorem join_size {c : List Nat} (hc : c.length ≤ 8) (h6 : ∀ n ∈ c, n < 65536) : (btx (join8 c)).size ≤ 40 := by
  rw [btx_size]
  have := (join8_len c h6).1
  omega

theorem lrun_is {a0 a1 a2 a3 a4 a5 a6 a7 B E : Nat} (hL : Lr [a0, a1, a2, a3, a4, a5, a6, a7] 8 B E) (hl : ∀ n ∈ [a0, a1, a2, a3, a4, a5, a6, a7], n < 65536) (w : World) :
    Calls Tryd.prog 14 #[.agg #[.int .u16 (a0 : Int), .int .u16 (a1 : Int), .int .u16 (a2 : Int), .int .u16 (a3 : Int), .int .u16 (a4 : Int), .int .u16 (a5 : Int), .int .u16 (a6 : Int), .int .u16 (a7 : Int)]] w fun e w' => e = .returned (.tuple #[.int .i64 (B : Int), .int .i64 (E : Int)]) ∧ Below w.heap.size w w' := by
  refine (lrun_any a0 a1 a2 a3 a4 a5 a6 a7 w hl).mono ?_
  rintro e w' ⟨B', E', rfl, hL', hb⟩
  have h1 : B' = B := hL'.1.trans hL.1.symm
  subst h1
  have h2 : E' = E := hL'.2.trans hL.2.symm
  subst h2
  exact ⟨rfl, hb⟩
set_option maxHeartbeats 4000000 in
set_option maxRecDepth 100000 in
theorem sixtext_any (a0 a1 a2 a3 a4 a5 a6 a7 : Nat) (w : World) (hv : V8 w) (hl : ∀ n ∈ [a0, a1, a2, a3, a4, a5, a6, a7], n < 65536) :
    Calls Tryd.prog 8 #[.agg #[.int .u16 (a0 : Int), .int .u16 (a1 : Int), .int .u16 (a2 : Int), .int .u16 (a3 : Int), .int .u16 (a4 : Int), .int .u16 (a5 : Int), .int .u16 (a6 : Int), .int .u16 (a7 : Int)]] w (Quiet8 (btx (text8 [a0, a1, a2, a3, a4, a5, a6, a7])) w) := by
  obtain ⟨B, E, hL⟩ : ∃ B E, Lr [a0, a1, a2, a3, a4, a5, a6, a7] 8 B E := ⟨_, _, rfl, rfl⟩
  obtain ⟨hBE, hE8⟩ := hL.bound rfl (Nat.le_refl _)
  have HLr := Lib.hid (fun w => lrun_is hL hl w)
  have HT := Lib.hid (text_by hL)
  have HRow : Hid (RowU 23 (w.alloc (.cells #[.int .u16 (a0 : Int), .int .u16 (a1 : Int), .int .u16 (a2 : Int), .int .u16 (a3 : Int), .int .u16 (a4 : Int), .int .u16 (a5 : Int), .int .u16 (a6 : Int), .int .u16 (a7 : Int)] 23)) w.heap.size [a0, a1, a2, a3, a4, a5, a6, a7]) := by
    show RowU _ _ _ _
    exact RowU.new 23 w [a0, a1, a2, a3, a4, a5, a6, a7]
  have HB0 : Hid (Below w.heap.size w (w.alloc (.cells #[.int .u16 (a0 : Int), .int .u16 (a1 : Int), .int .u16 (a2 : Int), .int .u16 (a3 : Int), .int .u16 (a4 : Int), .int .u16 (a5 : Int), .int .u16 (a6 : Int), .int .u16 (a7 : Int)] 23))) := by
    show Below _ _ _
    exact (Below.refl _ _).alloc (Nat.le_refl _) _
  have HV := Lib.hid hv
  have HLen : Hid ([a0, a1, a2, a3, a4, a5, a6, a7].length = 8) := Lib.hid rfl
  clear hv hL
  obtain ⟨l, hll⟩ : ∃ l, [a0, a1, a2, a3, a4, a5, a6, a7] = l := ⟨_, rfl⟩
  rw [hll] at HT HRow HLen hl ⊢
  clear hll
  have H6 := Lib.hid hl
  clear hl
  by_cases h2 : E - B < 2
  · have h2i : (E : Int) - (B : Int) < 2 := by omega
    have HT2 : Hid (text8 l = join8 l) := HT.out.trans (if_pos h2)
    go_enter Tryd.func8, Tryd.ntmps8
    go_wp2_with (first
      | (go_at_call 14; (with_reducible refine (HLr.out _).mono ?_); rintro e w1 ⟨rfl, hb⟩; have HB1 := Lib.hid (bnx8 HB0.out hb); have HR1 := Lib.hid (HRow.out.below hb); clear hb)
      | (go_at_call 15; (with_reducible refine (join_is HLen.out _ (HV.out.below HB1.out) (Nat.le_of_eq HLen.out) H6.out (row_all HR1.out)).mono ?_); rintro e w2 ⟨rfl, hb⟩; have HB2 := Lib.hid (bnx8 HB1.out hb); clear hb))
    go_ret
    exact ⟨by rw [HT2.out]; rfl, HB2.out⟩
  · have h2i : ¬ ((E : Int) - (B : Int) < 2) := by omega
    have HT2 : Hid (text8 l = join8 (l.take B) ++ 58 :: 58 :: join8 (l.drop E)) := HT.out.trans (if_neg h2)
    have HLt : Hid ((l.take B).length = B) := by
      show (l.take B).length = B
      rw [List.length_take, HLen.out]; omega
    have HLd : Hid ((l.drop E).length = 8 - E) := by
      show (l.drop E).length = 8 - E
      rw [List.length_drop, HLen.out]
    have H6t : Hid (∀ n ∈ l.take B, n < 65536) := fun n hn => H6.out n (List.mem_of_mem_take hn)
    have H6d : Hid (∀ n ∈ l.drop E, n < 65536) := fun n hn => H6.out n (List.mem_of_mem_drop hn)
    have H8t : Hid ((l.take B).length ≤ 8) := by
      show (l.take B).length ≤ 8
      rw [HLt.out]; omega
    have H8d : Hid ((l.drop E).length ≤ 8) := by
      show (l.drop E).length ≤ 8
      rw [HLd.out]; omega
    have hst := join_size H8t.out H6t.out
    have hsd := join_size H8d.out H6d.out
    have hB0 : (0 : Int) ≤ (B : Int) := by omega
    have hB8 : (B : Int) ≤ 8 := by omega
    have hE0 : (0 : Int) ≤ (E : Int) := by omega
    have hE8i : (E : Int) ≤ 8 := by omega
    have hEn : ¬ (E = 0) := by omega
    by_cases h8 : E = 8
    · subst h8
      have HDn : Hid (l.drop 8 = []) := Lib.hid (List.drop_eq_nil_of_le (Nat.le_of_eq HLen.out))
      have HT3 : Hid (text8 l = join8 (l.take B) ++ 58 :: 58 :: join8 []) := by
        show text8 l = _
        rw [HT2.out, HDn.out]
      clear hsd HLd H6d H8d HDn
      have hz1 : ¬ (9223372036854775807 < (btx (join8 (l.take B))).size + 2) := by omega
      have hz2 : ¬ (9223372036854775807 < (btx (join8 (l.take B))).size + 2 + (btx (join8 [])).size) := by
        have : (btx (join8 [])).size = 0 := rfl
        omega
      go_enter Tryd.func8, Tryd.ntmps8
      go_wp2_with (go_at_call 14; (with_reducible refine (HLr.out _).mono ?_); rintro e w1 ⟨rfl, hb⟩; have HB1 := Lib.hid (bnx8 HB0.out hb); have HR1 := Lib.hid (HRow.out.below hb); have HB1d := Lib.hid HB1.out.drew; have HV1d := Lib.hid (HV.out.below HB1d.out); have HR1d := Lib.hid (RowU.heap8 (W' := w1.drew) HR1.out rfl); clear hb)
      go_region_with (first
        | (go_at_call 15; (with_reducible refine (join_nil8 _ HV2.out).mono ?_); rintro e w3 ⟨rfl, hb⟩; have HB3 := Lib.hid (bnx8 HB2.out hb); clear hb)
        | (go_at_call 15; (with_reducible refine (join_is HLt.out _ HV1d.out H8t.out H6t.out (row_to HR1d.out B)).mono ?_); rintro e w2 ⟨rfl, hb⟩; have HB2 := Lib.hid (bnx8 HB1d.out hb); have HV2 := Lib.hid (HV.out.below HB2.out); clear hb))
      all_goals
        go_wp2
        go_ret
        refine ⟨?_, HB3.out⟩
        rw [HT3.out, ← btx3]
        rfl
    · have h8n : ¬ (8 = E) := fun h => h8 h.symm
      have hz1 : ¬ (9223372036854775807 < (btx (join8 (l.take B))).size + 2) := by omega
      have hz2 : ¬ (9223372036854775807 < (btx (join8 (l.take B))).size + 2 + (btx (join8 (l.drop E))).size) := by omega
      clear hst hsd
      go_enter Tryd.func8, Tryd.ntmps8
      go_wp2_with (go_at_call 14; (with_reducible refine (HLr.out _).mono ?_); rintro e w1 ⟨rfl, hb⟩; have HB1 := Lib.hid (bnx8 HB0.out hb); have HR1 := Lib.hid (HRow.out.below hb); have HB1d := Lib.hid HB1.out.drew; have HV1d := Lib.hid (HV.out.below HB1d.out); have HR1d := Lib.hid (RowU.heap8 (W' := w1.drew) HR1.out rfl); clear hb)
      go_region_with (first
        | (go_at_call 15; (with_reducible refine (join_is HLd.out _ HV2.out H8d.out H6d.out (row_from HR2.out E)).mono ?_); rintro e w3 ⟨rfl, hb⟩; have HB3 := Lib.hid (bnx8 HB2.out hb); clear hb)
        | (go_at_call 15; (with_reducible refine (join_is HLt.out _ HV1d.out H8t.out H6t.out (row_to HR1d.out B)).mono ?_); rintro e w2 ⟨rfl, hb⟩; have HB2 := Lib.hid (bnx8 HB1d.out hb); have HV2 := Lib.hid (HV.out.below HB2.out); have HR2 := Lib.hid (HR1d.out.below hb); clear hb))
      all_goals
        go_wp2
        go_ret
        refine ⟨?_, HB3.out⟩
        rw [HT2.out, ← btx3]
        rfl
end Go.Proofs.YtfodkkdggajjaaaDoor

/-
  The program's Parse and Text of layer 8 do as the document says.
-/
namespace Go.Proofs.YtfodkkdggajjaaaDoor
open Go.RowKit

theorem sixC (w0 : World) (hv : V8 w0) : SixC w0 :=
  ⟨fun s w hw hs => sixparse_any s (by omega) w (hv.below hw), fun c w hw hc h6 => by
    obtain ⟨a0, a1, a2, a3, a4, a5, a6, a7, rfl⟩ := eight_of8 hc
    exact sixtext_any a0 a1 a2 a3 a4 a5 a6 a7 w (hv.below hw) h6⟩
end Go.Proofs.YtfodkkdggajjaaaDoor

/-
  Two arrays of eight letters, held against each other.
-/
namespace Go.Proofs.YtfodkkdggajjaaaDoor
open Go.RowKit

theorem key8 : Tryd.prog.keyTypeAt 2 23 = true := by kernel_rfl
theorem c8_one : Tryd.prog.cellsOf 22 = 1 := by kernel_rfl
theorem c8_all : Tryd.prog.cellsOf 23 = 8 := by kernel_rfl
def L16 (n : Int) : Prop := 0 ≤ n ∧ n ≤ 65535
theorem lit8_one {n : Int} (h : L16 n) : Tryd.prog.keyLits 1 22 [.int .u16 n] = some [.int .u16 n] := by
  have hw : (Lit.int .u16 n).wf = true := by
    have h1 := h.1
    have h2 := h.2
    have e1 : IntKind.u16.min = 0 := rfl
    have e2 : IntKind.u16.max = 65535 := rfl
    simp [Lit.wf, e1, e2]
    omega
  simp [Program.keyLits, Tryd.underlying22, hw]
theorem lits8 (a0 a1 a2 a3 a4 a5 a6 a7 : Int) (ha0 : L16 a0) (ha1 : L16 a1) (ha2 : L16 a2) (ha3 : L16 a3) (ha4 : L16 a4) (ha5 : L16 a5) (ha6 : L16 a6) (ha7 : L16 a7) : Tryd.prog.keyLits 2 23 [.int .u16 a0, .int .u16 a1, .int .u16 a2, .int .u16 a3, .int .u16 a4, .int .u16 a5, .int .u16 a6, .int .u16 a7] = some [.int .u16 a0, .int .u16 a1, .int .u16 a2, .int .u16 a3, .int .u16 a4, .int .u16 a5, .int .u16 a6, .int .u16 a7] := by
  unfold Program.keyLits
  simp only [Tryd.underlying23, c8_one, c8_all, List.length_cons, List.length_nil]
  rw [if_pos trivial, show List.range 8 = [0, 1, 2, 3, 4, 5, 6, 7] from rfl]
  simp only [List.mapM_cons, List.mapM_nil, Nat.mul_one, List.drop_zero, List.drop_succ_cons, List.take_succ_cons, List.take_zero, lit8_one ha0, lit8_one ha1, lit8_one ha2, lit8_one ha3, lit8_one ha4, lit8_one ha5, lit8_one ha6, lit8_one ha7]
  rfl
set_option maxRecDepth 100000 in
theorem same8 (a0 a1 a2 a3 a4 a5 a6 a7 b0 b1 b2 b3 b4 b5 b6 b7 : Int) (ha0 : L16 a0) (ha1 : L16 a1) (ha2 : L16 a2) (ha3 : L16 a3) (ha4 : L16 a4) (ha5 : L16 a5) (ha6 : L16 a6) (ha7 : L16 a7) (hb0 : L16 b0) (hb1 : L16 b1) (hb2 : L16 b2) (hb3 : L16 b3) (hb4 : L16 b4) (hb5 : L16 b5) (hb6 : L16 b6) (hb7 : L16 b7) (W : World) :
    Sem.run Tryd.prog (Op.equalIn 10000 23 (.agg #[.int .u16 a0, .int .u16 a1, .int .u16 a2, .int .u16 a3, .int .u16 a4, .int .u16 a5, .int .u16 a6, .int .u16 a7]) (.agg #[.int .u16 b0, .int .u16 b1, .int .u16 b2, .int .u16 b3, .int .u16 b4, .int .u16 b5, .int .u16 b6, .int .u16 b7])) W = .ok (decide ([a0, a1, a2, a3, a4, a5, a6, a7] = [b0, b1, b2, b3, b4, b5, b6, b7])) W := by
  obtain ⟨r, h1, h2⟩ := run_equalIn_deep (P := Tryd.prog) 9998 2 23 key8 W 2 2 (.agg #[.int .u16 a0, .int .u16 a1, .int .u16 a2, .int .u16 a3, .int .u16 a4, .int .u16 a5, .int .u16 a6, .int .u16 a7]) (.agg #[.int .u16 b0, .int .u16 b1, .int .u16 b2, .int .u16 b3, .int .u16 b4, .int .u16 b5, .int .u16 b6, .int .u16 b7]) _ _ rfl rfl (lits8 a0 a1 a2 a3 a4 a5 a6 a7 ha0 ha1 ha2 ha3 ha4 ha5 ha6 ha7) (lits8 b0 b1 b2 b3 b4 b5 b6 b7 hb0 hb1 hb2 hb3 hb4 hb5 hb6 hb7)
  have e : r = decide ([a0, a1, a2, a3, a4, a5, a6, a7] = [b0, b1, b2, b3, b4, b5, b6, b7]) := by
    rw [Bool.eq_iff_iff, h2, decide_eq_true_iff]
    simp
  rw [← e]
  exact h1
end Go.Proofs.YtfodkkdggajjaaaDoor

/-
  IpsixTexts, walked over the program's contracts: whatever the input, true.
-/
namespace Go.Proofs.YtfodkkdggajjaaaDoor
open Go.RowKit

theorem box8 {w : World} (a0 a1 a2 a3 a4 a5 a6 a7 : Nat) (W : World) (hW : w.alloc (.cells #[.int .u16 (a0 : Int), .int .u16 (a1 : Int), .int .u16 (a2 : Int), .int .u16 (a3 : Int), .int .u16 (a4 : Int), .int .u16 (a5 : Int), .int .u16 (a6 : Int), .int .u16 (a7 : Int)] 23) = W) : ∀ wx, Below W.heap.size W wx → wx.cell? ⟨w.heap.size, 0, none⟩ = some (.int .u16 (a0 : Int)) ∧ wx.cell? ⟨w.heap.size, 1, none⟩ = some (.int .u16 (a1 : Int)) ∧ wx.cell? ⟨w.heap.size, 2, none⟩ = some (.int .u16 (a2 : Int)) ∧ wx.cell? ⟨w.heap.size, 3, none⟩ = some (.int .u16 (a3 : Int)) ∧ wx.cell? ⟨w.heap.size, 4, none⟩ = some (.int .u16 (a4 : Int)) ∧ wx.cell? ⟨w.heap.size, 5, none⟩ = some (.int .u16 (a5 : Int)) ∧ wx.cell? ⟨w.heap.size, 6, none⟩ = some (.int .u16 (a6 : Int)) ∧ wx.cell? ⟨w.heap.size, 7, none⟩ = some (.int .u16 (a7 : Int)) := by
  intro wx hb
  subst hW
  exact ⟨cell_kept8 hb (j := 0) rfl, cell_kept8 hb (j := 1) rfl, cell_kept8 hb (j := 2) rfl, cell_kept8 hb (j := 3) rfl, cell_kept8 hb (j := 4) rfl, cell_kept8 hb (j := 5) rfl, cell_kept8 hb (j := 6) rfl, cell_kept8 hb (j := 7) rfl⟩
theorem six_text {w0 : World} (C : SixC w0) (a0 a1 a2 a3 a4 a5 a6 a7 : Nat) {t : ByteArray} (ht : btx (text8 [a0, a1, a2, a3, a4, a5, a6, a7]) = t) (h6 : ∀ n ∈ [a0, a1, a2, a3, a4, a5, a6, a7], n < 65536) (w : World) (hw : Below w0.heap.size w0 w) :
    Calls Tryd.prog 8 #[.agg #[.int .u16 (a0 : Int), .int .u16 (a1 : Int), .int .u16 (a2 : Int), .int .u16 (a3 : Int), .int .u16 (a4 : Int), .int .u16 (a5 : Int), .int .u16 (a6 : Int), .int .u16 (a7 : Int)]] w fun e w' => e = .returned (.string t) ∧ Below w.heap.size w w' := by
  have := C.text [a0, a1, a2, a3, a4, a5, a6, a7] w hw rfl h6
  rw [ht] at this
  exact this
theorem ref_text8 (a0 a1 a2 a3 a4 a5 a6 a7 : Nat) {t : ByteArray} (ht : btx (text8 [a0, a1, a2, a3, a4, a5, a6, a7]) = t) (h6 : ∀ n ∈ [a0, a1, a2, a3, a4, a5, a6, a7], n < 65536) (w : World) :
    Calls Tryd.prog 9 #[.agg #[.int .u16 (a0 : Int), .int .u16 (a1 : Int), .int .u16 (a2 : Int), .int .u16 (a3 : Int), .int .u16 (a4 : Int), .int .u16 (a5 : Int), .int .u16 (a6 : Int), .int .u16 (a7 : Int)]] w fun e w' => e = .returned (.string t) ∧ Below w.heap.size w w' := by
  have := text8_any a0 a1 a2 a3 a4 a5 a6 a7 w h6
  rw [ht] at this
  exact this
theorem SixC.behind {w0 w : World} (C : SixC w0) (h : Below w0.heap.size w0 w) : SixC w := ⟨fun s x hx => C.parse s x (bnx8 h hx), fun c x hx => C.text c x (bnx8 h hx)⟩
theorem bnxd {W a b : World} (h : Below W.heap.size W a) (k : Below a.drew.heap.size a.drew b) : Below W.heap.size W b := bnx8 h (below_drew8 k)

set_option maxHeartbeats 2000000 in
set_option maxRecDepth 100000 in
theorem law_texts8 (a0 a1 a2 a3 a4 a5 a6 a7 : Nat) (w : World) (h6 : ∀ n ∈ [a0, a1, a2, a3, a4, a5, a6, a7], n < 65536) (C : SixC w) : Calls Tryd.prog 3 #[.agg #[.int .u16 (a0 : Int), .int .u16 (a1 : Int), .int .u16 (a2 : Int), .int .u16 (a3 : Int), .int .u16 (a4 : Int), .int .u16 (a5 : Int), .int .u16 (a6 : Int), .int .u16 (a7 : Int)]] w (Yes8 w) := by
  have HC := Lib.hid C
  have H6 := Lib.hid h6
  clear C h6
  obtain ⟨t, ht⟩ : ∃ t, btx (text8 [a0, a1, a2, a3, a4, a5, a6, a7]) = t := ⟨_, rfl⟩
  have HT := Lib.hid ht
  clear ht
  obtain ⟨W, hW⟩ : ∃ W, w.alloc (.cells #[.int .u16 (a0 : Int), .int .u16 (a1 : Int), .int .u16 (a2 : Int), .int .u16 (a3 : Int), .int .u16 (a4 : Int), .int .u16 (a5 : Int), .int .u16 (a6 : Int), .int .u16 (a7 : Int)] 23) = W := ⟨_, rfl⟩
  have HCs := Lib.hid (box8 a0 a1 a2 a3 a4 a5 a6 a7 W hW)
  have HW : Hid (Below w.heap.size w W) := by rw [← hW]; exact (Below.refl _ _).alloc (Nat.le_refl _) _
  have HWs : Hid (w.heap.size < W.heap.size) := by show w.heap.size < W.heap.size; rw [← hW]; simp
  obtain ⟨g, hg⟩ : ∃ g, w.heap.size = g := ⟨_, rfl⟩
  rw [hg] at HCs
  have HGg := Lib.hid hg
  have HA : Hid (Calls Tryd.prog 7 #[] W (Yes8 W)) := awake8 (HC.out.behind HW.out)
  go_enter Tryd.func3, Tryd.ntmps3
  go_wp2_with (go_at_call 7; (try rw [hW]); refine HA.out.mono ?_; rintro e w1 ⟨rfl, hb⟩; have HBc := Lib.hid hb; clear hb)
  obtain ⟨s0, s1, s2, s3, s4, s5, s6, s7⟩ := HCs.out _ HBc.out
  clear hW hg
  go_region_held3 (fun wx => wx.cell? ⟨g, 0, none⟩ = some (.int .u16 (a0 : Int)) ∧ wx.cell? ⟨g, 1, none⟩ = some (.int .u16 (a1 : Int)) ∧ wx.cell? ⟨g, 2, none⟩ = some (.int .u16 (a2 : Int)) ∧ wx.cell? ⟨g, 3, none⟩ = some (.int .u16 (a3 : Int)) ∧ wx.cell? ⟨g, 4, none⟩ = some (.int .u16 (a4 : Int)) ∧ wx.cell? ⟨g, 5, none⟩ = some (.int .u16 (a5 : Int)) ∧ wx.cell? ⟨g, 6, none⟩ = some (.int .u16 (a6 : Int)) ∧ wx.cell? ⟨g, 7, none⟩ = some (.int .u16 (a7 : Int))) (first | exact ⟨s0, s1, s2, s3, s4, s5, s6, s7⟩ | exact hS1 | exact hS2 | go_keep) (first
    | (go_at_call 8; (with_reducible refine (six_text HC.out a0 a1 a2 a3 a4 a5 a6 a7 HT.out H6.out _ (by first | exact bnx8 HW.out HBc.out | exact (bnx8 HW.out HBc.out).drew)).mono ?_); rintro e w2 ⟨rfl, hb1⟩; (first | have HBc := Lib.hid (bnx8 HBc.out hb1) | have HBc := Lib.hid (bnxd HBc.out hb1)); have hS1 := HCs.out _ HBc.out; clear hb1)
    | (go_at_call 9; (with_reducible refine (ref_text8 a0 a1 a2 a3 a4 a5 a6 a7 HT.out H6.out _).mono ?_); rintro e w3 ⟨rfl, hb1⟩; (first | have HBc := Lib.hid (bnx8 HBc.out hb1) | have HBc := Lib.hid (bnxd HBc.out hb1)); have hS2 := HCs.out _ HBc.out; clear hb1))
  all_goals
    go_wp2
    go_ret
    exact ⟨rfl, bnx8 HW.out HBc.out⟩
end Go.Proofs.YtfodkkdggajjaaaDoor

/-
  Addresses as eight letters: what the laws' walks take.
-/
namespace Go.Proofs.YtfodkkdggajjaaaDoor
open Go.RowKit

theorem eight8 {c : List Nat} (h : c.length = 8) : ∃ a0 a1 a2 a3 a4 a5 a6 a7, c = [a0, a1, a2, a3, a4, a5, a6, a7] := by
  match c, h with
  | [a0, a1, a2, a3, a4, a5, a6, a7], _ => exact ⟨a0, a1, a2, a3, a4, a5, a6, a7, rfl⟩
theorem l16 {c : List Nat} (h : ∀ n ∈ c, n < 65536) (n : Nat) (hn : n ∈ c) : L16 (n : Int) := ⟨by omega, by have := h n hn; omega⟩
theorem same8_yes (a0 a1 a2 a3 a4 a5 a6 a7 : Nat) (h6 : ∀ n ∈ [a0, a1, a2, a3, a4, a5, a6, a7], n < 65536) (W : World) : Sem.run Tryd.prog (Op.equalIn 10000 23 (.agg #[.int .u16 (a0 : Int), .int .u16 (a1 : Int), .int .u16 (a2 : Int), .int .u16 (a3 : Int), .int .u16 (a4 : Int), .int .u16 (a5 : Int), .int .u16 (a6 : Int), .int .u16 (a7 : Int)]) (.agg #[.int .u16 (a0 : Int), .int .u16 (a1 : Int), .int .u16 (a2 : Int), .int .u16 (a3 : Int), .int .u16 (a4 : Int), .int .u16 (a5 : Int), .int .u16 (a6 : Int), .int .u16 (a7 : Int)])) W = .ok true W := by
  have := same8 (a0 : Int) (a1 : Int) (a2 : Int) (a3 : Int) (a4 : Int) (a5 : Int) (a6 : Int) (a7 : Int) (a0 : Int) (a1 : Int) (a2 : Int) (a3 : Int) (a4 : Int) (a5 : Int) (a6 : Int) (a7 : Int) (l16 h6 a0 (by simp)) (l16 h6 a1 (by simp)) (l16 h6 a2 (by simp)) (l16 h6 a3 (by simp)) (l16 h6 a4 (by simp)) (l16 h6 a5 (by simp)) (l16 h6 a6 (by simp)) (l16 h6 a7 (by simp)) (l16 h6 a0 (by simp)) (l16 h6 a1 (by simp)) (l16 h6 a2 (by simp)) (l16 h6 a3 (by simp)) (l16 h6 a4 (by simp)) (l16 h6 a5 (by simp)) (l16 h6 a6 (by simp)) (l16 h6 a7 (by simp)) W
  rw [decide_eq_true rfl] at this
  exact this
theorem same8_zero (W : World) : Sem.run Tryd.prog (Op.equalIn 10000 23 (.agg #[.int .u16 0, .int .u16 0, .int .u16 0, .int .u16 0, .int .u16 0, .int .u16 0, .int .u16 0, .int .u16 0]) (.agg #[.int .u16 0, .int .u16 0, .int .u16 0, .int .u16 0, .int .u16 0, .int .u16 0, .int .u16 0, .int .u16 0])) W = .ok true W := same8_yes 0 0 0 0 0 0 0 0 (by decide) W
theorem six_ok8 {w0 : World} (C : SixC w0) {s : ByteArray} (a0 a1 a2 a3 a4 a5 a6 a7 : Nat) (h : parse8 s.data.toList = some [a0, a1, a2, a3, a4, a5, a6, a7]) (hs : s.size ≤ 200) (w : World) (hw : Below w0.heap.size w0 w) :
    Calls Tryd.prog 10 #[.string s] w fun e w' => e = .returned (.tuple #[.agg #[.int .u16 (a0 : Int), .int .u16 (a1 : Int), .int .u16 (a2 : Int), .int .u16 (a3 : Int), .int .u16 (a4 : Int), .int .u16 (a5 : Int), .int .u16 (a6 : Int), .int .u16 (a7 : Int)], .nilIface]) ∧ Below w.heap.size w w' := six_ok C h hs w hw
theorem six_no8 {w0 : World} (C : SixC w0) {s : ByteArray} (h : parse8 s.data.toList = none) (hs : s.size ≤ 200) (w : World) (hw : Below w0.heap.size w0 w) :
    Calls Tryd.prog 10 #[.string s] w fun e w' => ∃ cs u x, e = .returned (.tuple #[.agg #[.int .u16 0, .int .u16 0, .int .u16 0, .int .u16 0, .int .u16 0, .int .u16 0, .int .u16 0, .int .u16 0], .iface u x]) ∧ Chain w' cs (some 2) (.iface u x) ∧ Below w.heap.size w w' := six_no C h hs w hw
end Go.Proofs.YtfodkkdggajjaaaDoor

/-
  decimal of layer 8's laws, by its contract.
-/
namespace Go.Proofs.YtfodkkdggajjaaaDoor
open Go.RowKit

theorem conv_one (W : World) (g : Nat) (hg : W.heap.size = g) (c : Int) (b : UInt8) (hc : c = (b.toNat : Int)) :
    (convert 54 9 (.slice (some ⟨g, 0, none⟩) 1 1)).run Tryd.prog (W.alloc (.cells #[.int .u8 c] 5)) = .ok (.string (btx [b])) (W.alloc (.cells #[.int .u8 c] 5)) := by
  subst hg hc
  exact run_convert_bytes_back (W.alloc (.cells #[.int .u8 (b.toNat : Int)] 5)) _ _ _ ⟨W.heap.size, 0, none⟩ 1 [b] Tryd.underlying54 Tryd.underlying5 Tryd.underlying9 (fun j hj => by
    obtain rfl : j = 0 := by simp at hj; omega
    simp [Addr.add])
theorem fig7 {d : Nat} {c : Int} (hd : d < 10) (hc : c = 48 + (d : Int)) : c = ((UInt8.ofNat (48 + d)).toNat : Int) := by
  rw [hc]
  have : (48 + d) % 256 = 48 + d := by omega
  simp [this]
theorem btx_dec {n : Nat} (h : ¬ n < 10) {f : UInt8} (hf : UInt8.ofNat (48 + n % 10) = f) : btx (dec10 n) = btx (dec10 (n / 10)) ++ btx [f] := by
  rw [← btx_app8]
  congr 1
  conv => lhs; unfold dec10
  rw [if_neg h, hf]
theorem btx_fig {n : Nat} (h : n < 10) {f : UInt8} (hf : UInt8.ofNat (48 + n) = f) : btx (dec10 n) = btx [f] := by
  congr 1
  unfold dec10
  rw [if_pos h, hf]

theorem conv_at (W : World) (g : Nat) (b : UInt8) (hc : W.cell? ⟨g, 0, none⟩ = some (.int .u8 (b.toNat : Int))) :
    (convert 54 9 (.slice (some ⟨g, 0, none⟩) 1 1)).run Tryd.prog W = .ok (.string (btx [b])) W :=
  run_convert_bytes_back W _ _ _ ⟨g, 0, none⟩ 1 [b] Tryd.underlying54 Tryd.underlying5 Tryd.underlying9 (fun j hj => by
    obtain rfl : j = 0 := by simp at hj; omega
    simpa [Addr.add] using hc)

theorem conv_kept {W w1 : World} {g : Nat} {b : UInt8} (hc : W.cell? ⟨g, 0, none⟩ = some (.int .u8 (b.toNat : Int))) (h : Below W.heap.size W w1) :
    (convert 54 9 (.slice (some ⟨g, 0, none⟩) 1 1)).run Tryd.prog w1 = .ok (.string (btx [b])) w1 := by
  refine conv_at w1 g b ((h.cell (p := ⟨g, 0, none⟩) ?_).trans hc)
  rcases Nat.lt_or_ge g W.heap.size with h' | h'
  · exact h'
  · simp [World.cell?, Array.getElem?_eq_none h'] at hc

theorem bw1 {w w1 : World} (h : Below w.drew.heap.size w.drew w1) : Below w.heap.size w w1 := (below_drewN (Below.refl _ w) 1).trans h
theorem bw2 {w w1 : World} {o : Obj} (h : Below (w.alloc o).drew.heap.size (w.alloc o).drew w1) : Below w.heap.size w w1 :=
  ((Below.refl _ w).alloc (Nat.le_refl _) o).trans ((bw1 h).mono (by simp))
theorem bw3 {w w1 : World} {o : Obj} (h : Below (w.drew.alloc o).heap.size (w.drew.alloc o) w1) : Below w.heap.size w w1 :=
  bw1 (((Below.refl _ w.drew).alloc (Nat.le_refl _) o).trans (h.mono (by simp)))
theorem bw4 {w w1 : World} {o : Obj} (h : Below (w.alloc o).heap.size (w.alloc o) w1) : Below w.heap.size w w1 :=
  ((Below.refl _ w).alloc (Nat.le_refl _) o).trans (h.mono (by simp))


set_option maxHeartbeats 2000000 in
set_option maxRecDepth 100000 in
theorem dec_small (n : Nat) (w : World) (hn : n < 10) : Calls Tryd.prog 12 #[.int .u8 (n : Int)] w (Quiet8 (btx (dec10 n)) w) := by
  obtain ⟨f, hf⟩ : ∃ f, UInt8.ofNat (48 + n) = f := ⟨_, rfl⟩
  have HR := Lib.hid (btx_fig hn hf)
  have g : 48 + (n : Int) = (f.toNat : Int) := by rw [← hf]; exact fig7 hn rfl
  have e := f.toNat_lt
  have hcv := conv_one w w.heap.size rfl (f.toNat : Int) f rfl
  clear hf
  go_enter Tryd.func12, Tryd.ntmps12
  go_wp2
  go_ret
  exact ⟨by rw [HR.out]; rfl, (Below.refl _ _).alloc (Nat.le_refl _) _⟩

set_option maxHeartbeats 2000000 in
set_option maxRecDepth 100000 in
theorem dec_more (n : Nat) (w : World) (hn : ¬ n < 10) (hb : n < 256) (ih : ∀ w, Calls Tryd.prog 12 #[.int .u8 ((n / 10 : Nat) : Int)] w (Quiet8 (btx (dec10 (n / 10))) w)) :
    Calls Tryd.prog 12 #[.int .u8 (n : Int)] w (Quiet8 (btx (dec10 n)) w) := by
  obtain ⟨f, hf⟩ : ∃ f, UInt8.ofNat (48 + n % 10) = f := ⟨_, rfl⟩
  have HR := Lib.hid (btx_dec hn hf)
  have hl : (btx (dec10 (n / 10))).size ≤ 10 := by rw [btx_size]; exact dec10_len 9 (by omega)
  obtain ⟨t, ht⟩ : ∃ t, btx (dec10 (n / 10)) = t := ⟨_, rfl⟩
  rw [ht] at HR ih hl
  have g : 48 + (n : Int) % 10 = (f.toNat : Int) := by rw [← hf]; exact fig7 (by omega) (by omega)
  have e := f.toNat_lt
  obtain ⟨q, hq⟩ : ∃ q, n / 10 = q := ⟨_, rfl⟩
  rw [hq] at ih
  have hqi : (n : Int) / 10 = (q : Int) := by omega
  have hql : q < 256 := by omega
  have HIh := Lib.hid ih
  have hf1 : (btx [f]).size = 1 := by rw [btx_size]; rfl
  clear hf ih ht hq
  go_enter Tryd.func12, Tryd.ntmps12
  go_wp2_with fail
  have hd1 : (n : Int).tdiv 10 = (q : Int) := by rw [Int.tdiv_eq_ediv_of_nonneg (by omega)]; exact hqi
  obtain ⟨r, hr⟩ : ∃ r, n % 10 = r := ⟨_, rfl⟩
  have hr1 : r < 10 := by omega
  have hd2 : (n : Int).tmod 10 = (r : Int) := by rw [Int.tmod_eq_emod_of_nonneg (by omega)]; omega
  have hd3 : (n : Int) % 10 = (r : Int) := by omega
  have g' : 48 + (r : Int) = (f.toNat : Int) := by omega
  have hw1 : IntKind.u8.wrap (q : Int) = (q : Int) := by simp [IntKind.wrap, IntKind.bits, IntKind.signed]; omega
  have hw2 : IntKind.u8.wrap (r : Int) = (r : Int) := by simp [IntKind.wrap, IntKind.bits, IntKind.signed]; omega
  have hw4 : IntKind.u8.wrap (f.toNat : Int) = (f.toNat : Int) := by simp [IntKind.wrap, IntKind.bits, IntKind.signed]; omega
  have hcv := conv_one w w.heap.size rfl (f.toNat : Int) f rfl
  have hcv2 := conv_one w.drew w.heap.size rfl (f.toNat : Int) f rfl
  have c1 : (w.drew.alloc (.cells #[.int .u8 (f.toNat : Int)] 5)).cell? ⟨w.heap.size, 0, none⟩ = some (.int .u8 (f.toNat : Int)) := World.cell?_alloc_at _ _ _ _ rfl
  have c2 : (w.alloc (.cells #[.int .u8 (f.toNat : Int)] 5)).drew.cell? ⟨w.heap.size, 0, none⟩ = some (.int .u8 (f.toNat : Int)) := World.cell?_alloc_at (w := w) _ _ _ _ rfl
  have c3 : (w.alloc (.cells #[.int .u8 (f.toNat : Int)] 5)).cell? ⟨w.heap.size, 0, none⟩ = some (.int .u8 (f.toNat : Int)) := World.cell?_alloc_at _ _ _ _ rfl
  have hcv6 := conv_at _ _ _ c2
  clear hr g hn
  go_region_with (first
    | (go_at_call 12; (with_reducible refine (HIh.out _).mono ?_); rintro e w1 ⟨rfl, hb1⟩; (first | have HB1 := Lib.hid (bw1 (w := w) hb1) | have HB1 := Lib.hid (bw2 (w := w) hb1) | have HB1 := Lib.hid (bw3 (w := w) hb1) | have HB1 := Lib.hid (bw4 (w := w) hb1)); have hcv3 := conv_one w1 w1.heap.size rfl (f.toNat : Int) f rfl; (first | have hcv4 := conv_kept c1 hb1 | have hcv4 := conv_kept c2 hb1 | have hcv4 := conv_kept c3 hb1 | skip); clear hb1))
  all_goals
    go_wp2
    go_ret
    refine ⟨by rw [HR.out]; rfl, ?_⟩
    first
    | exact HB1.out
    | exact HB1.out.alloc HB1.out.size _
theorem dec_any : ∀ (n : Nat) (w : World), n < 256 → Calls Tryd.prog 12 #[.int .u8 (n : Int)] w (Quiet8 (btx (dec10 n)) w) := by
  intro n
  induction n using Nat.strongRecOn with
  | ind n ih =>
    intro w hn
    by_cases h : n < 10
    · exact dec_small n w h
    · exact dec_more n w h hn (fun w => ih (n / 10) (by omega) w (by omega))
theorem dec_same : ∀ n : Fin 256, dec10 n.val = dec8 n.val := by decide +kernel
end Go.Proofs.YtfodkkdggajjaaaDoor

/-
  IpsixQuads, walked over the program's contracts: whatever the input, true.
-/
namespace Go.Proofs.YtfodkkdggajjaaaDoor
open Go.RowKit

theorem dec_is {n : Nat} {t : ByteArray} (h : btx (dec8 n) = t) (hn : n < 256) (w : World) : Calls Tryd.prog 12 #[.int .u8 (n : Int)] w fun e w' => e = .returned (.string t) ∧ Below w.heap.size w w' := by
  have := dec_any n w hn
  rw [dec_same ⟨n, hn⟩, h] at this
  exact this
theorem hexq_is {n : Nat} {t : ByteArray} (h : btx (hex8 n) = t) (hn : n < 65536) (w : World) : Calls Tryd.prog 13 #[.int .u16 (n : Int)] w fun e w' => e = .returned (.string t) ∧ Below w.heap.size w w' := by
  have := hex_any n w hn
  rw [h] at this
  exact this
/-- The address and the four numbers, side by side in memory. -/
theorem boxq {w : World} (a0 a1 a2 a3 a4 a5 a6 a7 n0 n1 n2 n3 : Nat) (W : World) (hW : (w.alloc (.cells #[.int .u16 (a0 : Int), .int .u16 (a1 : Int), .int .u16 (a2 : Int), .int .u16 (a3 : Int), .int .u16 (a4 : Int), .int .u16 (a5 : Int), .int .u16 (a6 : Int), .int .u16 (a7 : Int)] 23)).alloc (.cells #[.int .u8 (n0 : Int), .int .u8 (n1 : Int), .int .u8 (n2 : Int), .int .u8 (n3 : Int)] 35) = W) :
    ∀ wx, Below W.heap.size W wx → wx.heap[w.heap.size]? = some (.cells #[.int .u16 (a0 : Int), .int .u16 (a1 : Int), .int .u16 (a2 : Int), .int .u16 (a3 : Int), .int .u16 (a4 : Int), .int .u16 (a5 : Int), .int .u16 (a6 : Int), .int .u16 (a7 : Int)] 23) ∧ (wx.cell? ⟨(w.heap.size + 1), 0, none⟩ = some (.int .u8 (n0 : Int)) ∧ wx.cell? ⟨(w.heap.size + 1), 1, none⟩ = some (.int .u8 (n1 : Int)) ∧ wx.cell? ⟨(w.heap.size + 1), 2, none⟩ = some (.int .u8 (n2 : Int)) ∧ wx.cell? ⟨(w.heap.size + 1), 3, none⟩ = some (.int .u8 (n3 : Int))) := by
  intro wx hb
  have h1 : W.heap[w.heap.size]? = some (.cells #[.int .u16 (a0 : Int), .int .u16 (a1 : Int), .int .u16 (a2 : Int), .int .u16 (a3 : Int), .int .u16 (a4 : Int), .int .u16 (a5 : Int), .int .u16 (a6 : Int), .int .u16 (a7 : Int)] 23) := by rw [← hW]; exact heap_alloc2_old w _ _
  have h2 : W.heap[w.heap.size + 1]? = some (.cells #[.int .u8 (n0 : Int), .int .u8 (n1 : Int), .int .u8 (n2 : Int), .int .u8 (n3 : Int)] 35) := by rw [← hW]; exact heap_alloc2_new w _ _
  have k1 := (hb.block _ (Array.getElem?_eq_some_iff.1 h1).1).trans h1
  have k2 := (hb.block _ (Array.getElem?_eq_some_iff.1 h2).1).trans h2
  refine ⟨k1, ?_⟩
  simp [World.cell?, k2]

theorem spotq {w : World} {b : Nat} {cs : Array Value} {t : TypeId} (h : w.heap[b]? = some (.cells cs t (0, 0))) (j : Nat) {x : Value} (hx : cs[j]? = some x) : w.cell? ⟨b, j, none⟩ = some x ∧ w.frozen? ⟨b, j, none⟩ = false := by
  constructor
  · simp [World.cell?, h, hx]
  · simp [World.frozen?, h]

theorem cell_heap {w w' : World} {b : Nat} (h : w.heap[b]? = w'.heap[b]?) (j : Nat) : w.cell? ⟨b, j, none⟩ = w'.cell? ⟨b, j, none⟩ := by simp [World.cell?, h]
/-- Behind two stores into the address. -/
theorem quadw (w6 : World) (g : Nat) (O : Obj) (a0 a1 a2 a3 a4 a5 a6 a7 x6 x7 : Nat) (hg : w6.heap[g]? = some (.cells #[.int .u16 (a0 : Int), .int .u16 (a1 : Int), .int .u16 (a2 : Int), .int .u16 (a3 : Int), .int .u16 (a4 : Int), .int .u16 (a5 : Int), .int .u16 (a6 : Int), .int .u16 (a7 : Int)] 23)) (hlt : g < w6.heap.size) :
    (w6.alloc O).frozen? ⟨g, 6, none⟩ = false ∧ (w6.alloc O).cell? ⟨g, 6, none⟩ = some (.int .u16 (a6 : Int)) ∧
    ((w6.alloc O).setCell ⟨g, 6, none⟩ (.int .u16 (x6 : Int))).frozen? ⟨g, 7, none⟩ = false ∧ ((w6.alloc O).setCell ⟨g, 6, none⟩ (.int .u16 (x6 : Int))).cell? ⟨g, 7, none⟩ = some (.int .u16 (a7 : Int)) ∧
    (((w6.alloc O).setCell ⟨g, 6, none⟩ (.int .u16 (x6 : Int))).setCell ⟨g, 7, none⟩ (.int .u16 (x7 : Int))).heap[g]? = some (.cells #[.int .u16 (a0 : Int), .int .u16 (a1 : Int), .int .u16 (a2 : Int), .int .u16 (a3 : Int), .int .u16 (a4 : Int), .int .u16 (a5 : Int), .int .u16 (x6 : Int), .int .u16 (x7 : Int)] 23 (0, 0)) ∧
    (∀ b j, b ≠ g → b < w6.heap.size → (w6.alloc O).cell? ⟨b, j, none⟩ = w6.cell? ⟨b, j, none⟩ ∧ ((w6.alloc O).setCell ⟨g, 6, none⟩ (.int .u16 (x6 : Int))).cell? ⟨b, j, none⟩ = w6.cell? ⟨b, j, none⟩ ∧ (((w6.alloc O).setCell ⟨g, 6, none⟩ (.int .u16 (x6 : Int))).setCell ⟨g, 7, none⟩ (.int .u16 (x7 : Int))).cell? ⟨b, j, none⟩ = w6.cell? ⟨b, j, none⟩) := by
  have h0 : (w6.alloc O).heap[g]? = some (.cells #[.int .u16 (a0 : Int), .int .u16 (a1 : Int), .int .u16 (a2 : Int), .int .u16 (a3 : Int), .int .u16 (a4 : Int), .int .u16 (a5 : Int), .int .u16 (a6 : Int), .int .u16 (a7 : Int)] 23) := (Below.heap_alloc w6 O g hlt).trans hg
  have h1 := heap_setCell_same (w6.alloc O) g 6 _ 23 (.int .u16 (x6 : Int)) h0
  have h2 := heap_setCell_same _ g 7 _ 23 (.int .u16 (x7 : Int)) h1
  refine ⟨(spotq h0 6 rfl).2, (spotq h0 6 rfl).1, (spotq h1 7 rfl).2, (spotq h1 7 rfl).1, h2, fun b j hb hl => ?_⟩
  have e0 : (w6.alloc O).heap[b]? = w6.heap[b]? := Below.heap_alloc w6 O b hl
  have e1 : ((w6.alloc O).setCell ⟨g, 6, none⟩ (.int .u16 (x6 : Int))).heap[b]? = w6.heap[b]? := (heap_setCell_other _ _ _ _ hb).trans e0
  have e2 : (((w6.alloc O).setCell ⟨g, 6, none⟩ (.int .u16 (x6 : Int))).setCell ⟨g, 7, none⟩ (.int .u16 (x7 : Int))).heap[b]? = w6.heap[b]? := (heap_setCell_other _ _ _ _ hb).trans e1
  exact ⟨cell_heap e0 j, cell_heap e1 j, cell_heap e2 j⟩

set_option maxHeartbeats 4000000 in
set_option maxRecDepth 100000 in
theorem law_quads8 (a0 a1 a2 a3 a4 a5 a6 a7 n0 n1 n2 n3 : Nat) (w : World) (h6 : ∀ n ∈ [a0, a1, a2, a3, a4, a5, a6, a7], n < 65536) (hn0 : n0 < 256) (hn1 : n1 < 256) (hn2 : n2 < 256) (hn3 : n3 < 256) (C : SixC w) : Calls Tryd.prog 6 #[.agg #[.int .u16 (a0 : Int), .int .u16 (a1 : Int), .int .u16 (a2 : Int), .int .u16 (a3 : Int), .int .u16 (a4 : Int), .int .u16 (a5 : Int), .int .u16 (a6 : Int), .int .u16 (a7 : Int)], .agg #[.int .u8 (n0 : Int), .int .u8 (n1 : Int), .int .u8 (n2 : Int), .int .u8 (n3 : Int)]] w (Yes8 w) := by
  have HC := Lib.hid C
  have H6 := Lib.hid h6
  obtain ⟨t0, ht0⟩ : ∃ t, btx (dec8 n0) = t := ⟨_, rfl⟩
  obtain ⟨t1, ht1⟩ : ∃ t, btx (dec8 n1) = t := ⟨_, rfl⟩
  obtain ⟨t2, ht2⟩ : ∃ t, btx (dec8 n2) = t := ⟨_, rfl⟩
  obtain ⟨t3, ht3⟩ : ∃ t, btx (dec8 n3) = t := ⟨_, rfl⟩
  have z0 : t0.size ≤ 3 := by rw [← ht0, btx_size]; exact (dec8_len hn0).2
  have z1 : t1.size ≤ 3 := by rw [← ht1, btx_size]; exact (dec8_len hn1).2
  have z2 : t2.size ≤ 3 := by rw [← ht2, btx_size]; exact (dec8_len hn2).2
  have z3 : t3.size ≤ 3 := by rw [← ht3, btx_size]; exact (dec8_len hn3).2
  have HQ : Hid ((t0 ++ ⟨#[46]⟩ ++ t1 ++ ⟨#[46]⟩ ++ t2 ++ ⟨#[46]⟩ ++ t3 : ByteArray).data.toList = quadT n0 n1 n2 n3) := by
    show (t0 ++ ⟨#[46]⟩ ++ t1 ++ ⟨#[46]⟩ ++ t2 ++ ⟨#[46]⟩ ++ t3 : ByteArray).data.toList = quadT n0 n1 n2 n3
    rw [← ht0, ← ht1, ← ht2, ← ht3]
    simp [btx, quadT]
  have D0 := Lib.hid ht0
  have D1 := Lib.hid ht1
  have D2 := Lib.hid ht2
  have D3 := Lib.hid ht3
  have c1 : ¬ (9223372036854775807 < t0.size + 1) := by omega
  have c2 : ¬ (9223372036854775807 < t0.size + 1 + t1.size) := by omega
  have c3 : ¬ (9223372036854775807 < t0.size + 1 + t1.size + 1) := by omega
  have c4 : ¬ (9223372036854775807 < t0.size + 1 + t1.size + 1 + t2.size) := by omega
  have c5 : ¬ (9223372036854775807 < t0.size + 1 + t1.size + 1 + t2.size + 1) := by omega
  have c6 : ¬ (9223372036854775807 < t0.size + 1 + t1.size + 1 + t2.size + 1 + t3.size) := by omega
  clear C h6 ht0 ht1 ht2 ht3
  obtain ⟨W, hW⟩ : ∃ W, (w.alloc (.cells #[.int .u16 (a0 : Int), .int .u16 (a1 : Int), .int .u16 (a2 : Int), .int .u16 (a3 : Int), .int .u16 (a4 : Int), .int .u16 (a5 : Int), .int .u16 (a6 : Int), .int .u16 (a7 : Int)] 23)).alloc (.cells #[.int .u8 (n0 : Int), .int .u8 (n1 : Int), .int .u8 (n2 : Int), .int .u8 (n3 : Int)] 35) = W := ⟨_, rfl⟩
  have HCs := Lib.hid (boxq a0 a1 a2 a3 a4 a5 a6 a7 n0 n1 n2 n3 W hW)
  have HW : Hid (Below w.heap.size w W) := by rw [← hW]; exact ((Below.refl _ _).alloc (Nat.le_refl _) _).alloc (by simp) _
  have hws : w.heap.size + 1 < W.heap.size := by rw [← hW]; simp
  obtain ⟨g, hg⟩ : ∃ g, w.heap.size = g := ⟨_, rfl⟩
  rw [hg] at HCs hws
  have HA : Hid (Calls Tryd.prog 7 #[] W (Yes8 W)) := awake8 (HC.out.behind HW.out)
  go_enter Tryd.func6, Tryd.ntmps6
  go_wp2_with (go_at_call 7; (try rw [hW]); refine HA.out.mono ?_; rintro e w1 ⟨rfl, hb⟩; have HBc := Lib.hid hb; clear hb)
  have NN := (HCs.out _ HBc.out).2
  have HGg : Hid (w.heap.size ≤ g) := Nat.le_of_eq hg
  clear hW hg
  go_region_held3 (fun wx => wx.cell? ⟨(g + 1), 0, none⟩ = some (.int .u8 (n0 : Int)) ∧ wx.cell? ⟨(g + 1), 1, none⟩ = some (.int .u8 (n1 : Int)) ∧ wx.cell? ⟨(g + 1), 2, none⟩ = some (.int .u8 (n2 : Int)) ∧ wx.cell? ⟨(g + 1), 3, none⟩ = some (.int .u8 (n3 : Int))) (first | exact NN | exact N0 | exact N1 | exact N2 | exact N3 | go_keep) (first
    | (go_at_call 12; (with_reducible refine (dec_is D0.out (by omega) _).mono ?_); rintro e v0 ⟨rfl, hb1⟩; (first | have HBc := Lib.hid (bnx8 HBc.out hb1) | have HBc := Lib.hid (bnxd HBc.out hb1)); have N0 := (HCs.out _ HBc.out).2; clear hb1)
    | (go_at_call 12; (with_reducible refine (dec_is D1.out (by omega) _).mono ?_); rintro e v1 ⟨rfl, hb1⟩; (first | have HBc := Lib.hid (bnx8 HBc.out hb1) | have HBc := Lib.hid (bnxd HBc.out hb1)); have N1 := (HCs.out _ HBc.out).2; clear hb1)
    | (go_at_call 12; (with_reducible refine (dec_is D2.out (by omega) _).mono ?_); rintro e v2 ⟨rfl, hb1⟩; (first | have HBc := Lib.hid (bnx8 HBc.out hb1) | have HBc := Lib.hid (bnxd HBc.out hb1)); have N2 := (HCs.out _ HBc.out).2; clear hb1)
    | (go_at_call 12; (with_reducible refine (dec_is D3.out (by omega) _).mono ?_); rintro e v3 ⟨rfl, hb1⟩; (first | have HBc := Lib.hid (bnx8 HBc.out hb1) | have HBc := Lib.hid (bnxd HBc.out hb1)); have N3 := (HCs.out _ HBc.out).2; clear hb1))
  have hQs : (t0 ++ ⟨#[46]⟩ ++ t1 ++ ⟨#[46]⟩ ++ t2 ++ ⟨#[46]⟩ ++ t3 : ByteArray).size ≤ 15 := by
    simp only [ByteArray.size_append]
    show t0.size + 1 + t1.size + 1 + t2.size + 1 + t3.size ≤ 15
    omega
  generalize (t0 ++ ⟨#[46]⟩ ++ t1 ++ ⟨#[46]⟩ ++ t2 ++ ⟨#[46]⟩ ++ t3 : ByteArray) = Q at HQ hQs ⊢
  clear c1 c2 c3 c4 c5 c6
  go_wp2
  obtain ⟨l, hl⟩ : ∃ l, [a0, a1, a2, a3, a4, a5, a6, a7] = l := ⟨_, rfl⟩
  have HL := Lib.hid hl
  go_loopw [7, 8] (fun v7 i wr => ∃ (k : Nat) (S : ByteArray), k ≤ 6 ∧ i = .int .i64 k ∧ v7 = .string S ∧ S.data.toList = heads8 (l.take k) ∧ S.size ≤ 5 * k ∧ Below W.heap.size W wr) (fun _ i _ => 6 - (intOf i).toNat)
  case atStart => exact ⟨0, ByteArray.empty, by omega, rfl, rfl, rfl, by decide, HBc.out⟩
  case round =>
    obtain ⟨k, S, hk, rfl, rfl, hS, hSs, hb⟩ := hrel
    have HSS := Lib.hid hS
    have HBr := Lib.hid hb
    clear hS hb
    by_cases hlt : k < 6
    · have hkl : k < l.length := by rw [← hl]; show k < 8; omega
      obtain ⟨x, hx⟩ : ∃ x, l[k] = x := ⟨_, rfl⟩
      have hx6 : x < 65536 := by rw [← hx]; exact H6.out _ (by rw [hl]; exact List.getElem_mem hkl)
      have hcell : wr.cell? ⟨g, k, none⟩ = some (.int .u16 (x : Int)) := by
        have h1 := (HCs.out _ HBr.out).1
        have h2 : (.cells #[.int .u16 (a0 : Int), .int .u16 (a1 : Int), .int .u16 (a2 : Int), .int .u16 (a3 : Int), .int .u16 (a4 : Int), .int .u16 (a5 : Int), .int .u16 (a6 : Int), .int .u16 (a7 : Int)] 23 : Obj) = .cells (l.map fun n : Nat => Value.int .u16 (n : Int)).toArray 23 (0, 0) := by rw [← hl]; rfl
        rw [h2] at h1
        simp [World.cell?, h1, List.getElem?_eq_getElem hkl, hx]
      obtain ⟨t, ht⟩ : ∃ t, btx (hex8 x) = t := ⟨_, rfl⟩
      have hts : t.size ≤ 4 := by rw [← ht, btx_size]; exact (hex8_len 3 x (by omega)).2
      have HTk : Hid ((S ++ t ++ ⟨#[58]⟩ : ByteArray).data.toList = heads8 (l.take (k + 1))) := by
        show (S ++ t ++ ⟨#[58]⟩ : ByteArray).data.toList = heads8 (l.take (k + 1))
        rw [List.take_succ_eq_append_getElem hkl, hx, heads8_snoc, ← HSS.out, ← ht]
        simp [btx]
      have HZ : Hid ((S ++ t ++ ⟨#[58]⟩ : ByteArray).size ≤ 5 * (k + 1)) := by
        show (S ++ t ++ ⟨#[58]⟩ : ByteArray).size ≤ 5 * (k + 1)
        simp only [ByteArray.size_append]
        show S.size + t.size + 1 ≤ _
        omega
      have HT := Lib.hid ht
      clear ht hx hkl hl
      go_wp2_with (go_at_call 13; refine (hexq_is HT.out hx6 _).mono ?_; rintro e w2 ⟨rfl, hb⟩; have HBr := Lib.hid (bnx8 HBr.out hb); clear hb)
      go_roundw
      case rel => exact ⟨k + 1, S ++ t ++ ⟨#[58]⟩, by omega, by go_num, rfl, HTk.out, HZ.out, HBr.out⟩
      case measure => simp [intOf]; omega
    · obtain rfl : k = 6 := by omega
      obtain ⟨x6, hx6⟩ : ∃ x, 256 * n0 + n1 = x := ⟨_, rfl⟩
      obtain ⟨x7, hx7⟩ : ∃ x, 256 * n2 + n3 = x := ⟨_, rfl⟩
      have hl6 : l.take 6 = [a0, a1, a2, a3, a4, a5] := by rw [← hl]; rfl
      have h66 : ∀ n ∈ l.take 6, n < 65536 := fun n hn => H6.out n (by rw [hl]; exact List.mem_of_mem_take hn)
      have P1 : Hid (parse8 (S ++ Q).data.toList = some [a0, a1, a2, a3, a4, a5, x6, x7]) := by
        show parse8 (S ++ Q).data.toList = _
        rw [ByteArray.data_append, Array.toList_append, HSS.out, HQ.out, quads_eight h66 hn0 hn1 hn2 hn3, hl6, hx6, hx7]
        rfl
      have P2 : Hid (parse8 ((⟨#[58, 58]⟩ : ByteArray) ++ Q).data.toList = some [0, 0, 0, 0, 0, 0, x6, x7]) := by
        show parse8 ((⟨#[58, 58]⟩ : ByteArray) ++ Q).data.toList = _
        rw [ByteArray.data_append, Array.toList_append, HQ.out, ← hx6, ← hx7]
        exact quads_pair hn0 hn1 hn2 hn3
      have P3 : Hid (parse8 (S ++ (⟨#[48, 58]⟩ : ByteArray) ++ Q).data.toList = none) := by
        show parse8 (S ++ (⟨#[48, 58]⟩ : ByteArray) ++ Q).data.toList = _
        have e : (S ++ (⟨#[48, 58]⟩ : ByteArray) ++ Q).data.toList = heads8 (l.take 6 ++ [0]) ++ quadT n0 n1 n2 n3 := by
          rw [ByteArray.data_append, Array.toList_append, ByteArray.data_append, Array.toList_append, HSS.out, HQ.out, heads8_snoc, show hex8 0 = [48] by decide +kernel]
          rfl
        rw [e, quads_eight (fun n hn => by
          rcases List.mem_append.1 hn with hn | hn
          · exact h66 n hn
          · rw [List.mem_singleton] at hn; omega) hn0 hn1 hn2 hn3, hl6]
        rfl
      have Z1 : Hid ((S ++ Q).size ≤ 200) := by show (S ++ Q).size ≤ 200; rw [ByteArray.size_append]; omega
      have Z2 : Hid (((⟨#[58, 58]⟩ : ByteArray) ++ Q).size ≤ 200) := by show ((⟨#[58, 58]⟩ : ByteArray) ++ Q).size ≤ 200; rw [ByteArray.size_append]; show 2 + Q.size ≤ 200; omega
      have Z3 : Hid ((S ++ (⟨#[48, 58]⟩ : ByteArray) ++ Q).size ≤ 200) := by show (S ++ (⟨#[48, 58]⟩ : ByteArray) ++ Q).size ≤ 200; rw [ByteArray.size_append, ByteArray.size_append]; show S.size + 2 + Q.size ≤ 200; omega
      have hX6 : x6 < 65536 := by omega
      have hX7 : x7 < 65536 := by omega
      have hsameA := same8_yes a0 a1 a2 a3 a4 a5 x6 x7 (fun n hn => by
        simp only [List.mem_cons, List.not_mem_nil, or_false] at hn
        have h6 := H6.out
        rcases hn with h | h | h | h | h | h | h | h <;> rw [h]
        · exact h6 a0 (by simp)
        · exact h6 a1 (by simp)
        · exact h6 a2 (by simp)
        · exact h6 a3 (by simp)
        · exact h6 a4 (by simp)
        · exact h6 a5 (by simp)
        · exact hX6
        · exact hX7)
      have hsameB : ∀ W, Sem.run Tryd.prog (Op.equalIn 10000 23 (.agg #[.int .u16 0, .int .u16 0, .int .u16 0, .int .u16 0, .int .u16 0, .int .u16 0, .int .u16 (x6 : Int), .int .u16 (x7 : Int)]) (.agg #[.int .u16 0, .int .u16 0, .int .u16 0, .int .u16 0, .int .u16 0, .int .u16 0, .int .u16 (x6 : Int), .int .u16 (x7 : Int)])) W = .ok true W := same8_yes 0 0 0 0 0 0 x6 x7 (fun n hn => by
        simp only [List.mem_cons, List.not_mem_nil, or_false] at hn
        omega)
      have hv6 : 256 * (n0 : Int) + (n1 : Int) = (x6 : Int) := by omega
      have hv7 : 256 * (n2 : Int) + (n3 : Int) = (x7 : Int) := by omega
      clear hl6 h66 hlt hx6 hx7 hl
      go_wp2_with (first
        | (go_at_call 10; (with_reducible refine (six_ok8 HC.out a0 a1 a2 a3 a4 a5 x6 x7 P1.out Z1.out _ (bnx8 HW.out HBr.out)).mono ?_); rintro e w4 ⟨rfl, hb⟩; have HBr := Lib.hid (bnx8 HBr.out hb); have hg4 : g + 1 < w4.heap.size := Nat.lt_of_lt_of_le hws HBr.out.size; clear hb)
        | (go_at_call 10; ((with_reducible refine (six_ok8 HC.out 0 0 0 0 0 0 x6 x7 P2.out Z2.out _ ((bnx8 HW.out HBr.out).alloc (bnx8 HW.out HBr.out).size _)).mono ?_); rintro e w5 ⟨rfl, hb⟩; have hlt45 := size_lt8 hb; have k0 := cell_kept8 hb (j := 0) rfl; have k1 := cell_kept8 hb (j := 1) rfl; have k2 := cell_kept8 hb (j := 2) rfl; have k3 := cell_kept8 hb (j := 3) rfl; have k4 := cell_kept8 hb (j := 4) rfl; have k5 := cell_kept8 hb (j := 5) rfl; have k6 := cell_kept8 hb (j := 6) rfl; have k7 := cell_kept8 hb (j := 7) rfl; have HBr := Lib.hid (bnxa8 HBr.out hb); clear hb))
        | (go_at_call 10; (with_reducible refine (six_no8 HC.out P3.out Z3.out _ ((bnx8 HW.out HBr.out).alloc (bnx8 HW.out HBr.out).size _)).mono ?_); rintro e w6 ⟨cs, u, x, rfl, _, hb⟩; have hlt56 := size_lt8 hb; have j0 := cell_kept8 hb (j := 0) rfl; have j1 := cell_kept8 hb (j := 1) rfl; have j2 := cell_kept8 hb (j := 2) rfl; have j3 := cell_kept8 hb (j := 3) rfl; have j4 := cell_kept8 hb (j := 4) rfl; have j5 := cell_kept8 hb (j := 5) rfl; have j6 := cell_kept8 hb (j := 6) rfl; have j7 := cell_kept8 hb (j := 7) rfl; have HBr := Lib.hid (bnxa8 HBr.out hb)
           have b5 : Below w5.heap.size w5 w6 := bnxa8 (Below.refl _ _) hb
           have k0 := (b5.cell (p := ⟨w4.heap.size, 0, none⟩) hlt45).trans k0; have k1 := (b5.cell (p := ⟨w4.heap.size, 1, none⟩) hlt45).trans k1; have k2 := (b5.cell (p := ⟨w4.heap.size, 2, none⟩) hlt45).trans k2; have k3 := (b5.cell (p := ⟨w4.heap.size, 3, none⟩) hlt45).trans k3; have k4 := (b5.cell (p := ⟨w4.heap.size, 4, none⟩) hlt45).trans k4; have k5 := (b5.cell (p := ⟨w4.heap.size, 5, none⟩) hlt45).trans k5; have k6 := (b5.cell (p := ⟨w4.heap.size, 6, none⟩) hlt45).trans k6; have k7 := (b5.cell (p := ⟨w4.heap.size, 7, none⟩) hlt45).trans k7
           obtain ⟨hgb, m0, m1, m2, m3⟩ := HCs.out _ HBr.out
           have hg6 : g + 1 < w6.heap.size := by omega
           obtain ⟨y1, y2, y3, y4, hV2, yV⟩ := quadw w6 g (.cells #[.int .u16 0, .int .u16 0, .int .u16 0, .int .u16 0, .int .u16 0, .int .u16 0, .int .u16 0, .int .u16 0] 23) a0 a1 a2 a3 a4 a5 a6 a7 x6 x7 hgb (by omega)
           have e0 := ((yV (g + 1) 0 (by omega) (by omega)).1).trans m0
           have e1 := ((yV (g + 1) 1 (by omega) (by omega)).1).trans m1
           have e2 := ((yV (g + 1) 2 (by omega) (by omega)).2.1).trans m2
           have e3 := ((yV (g + 1) 3 (by omega) (by omega)).2.1).trans m3
           have k0 := ((yV w4.heap.size 0 (by omega) (by omega)).2.2).trans k0; have k1 := ((yV w4.heap.size 1 (by omega) (by omega)).2.2).trans k1; have k2 := ((yV w4.heap.size 2 (by omega) (by omega)).2.2).trans k2; have k3 := ((yV w4.heap.size 3 (by omega) (by omega)).2.2).trans k3; have k4 := ((yV w4.heap.size 4 (by omega) (by omega)).2.2).trans k4; have k5 := ((yV w4.heap.size 5 (by omega) (by omega)).2.2).trans k5; have k6 := ((yV w4.heap.size 6 (by omega) (by omega)).2.2).trans k6; have k7 := ((yV w4.heap.size 7 (by omega) (by omega)).2.2).trans k7
           have j0 := ((yV w5.heap.size 0 (by omega) (by omega)).2.2).trans j0; have j1 := ((yV w5.heap.size 1 (by omega) (by omega)).2.2).trans j1; have j2 := ((yV w5.heap.size 2 (by omega) (by omega)).2.2).trans j2; have j3 := ((yV w5.heap.size 3 (by omega) (by omega)).2.2).trans j3; have j4 := ((yV w5.heap.size 4 (by omega) (by omega)).2.2).trans j4; have j5 := ((yV w5.heap.size 5 (by omega) (by omega)).2.2).trans j5; have j6 := ((yV w5.heap.size 6 (by omega) (by omega)).2.2).trans j6; have j7 := ((yV w5.heap.size 7 (by omega) (by omega)).2.2).trans j7
           have b10 := (spotq hV2 0 rfl).1; have b11 := (spotq hV2 1 rfl).1; have b12 := (spotq hV2 2 rfl).1; have b13 := (spotq hV2 3 rfl).1; have b14 := (spotq hV2 4 rfl).1; have b15 := (spotq hV2 5 rfl).1; have b16 := (spotq hV2 6 rfl).1; have b17 := (spotq hV2 7 rfl).1
           have HBq := Lib.hid (bnx8 HW.out HBr.out)
           clear yV hV2 m0 m1 m2 m3
           clear hb b5 hgb))
      go_ret
      exact ⟨by first | rfl | simp, ((HBq.out.alloc HBq.out.size _).setCell HGg.out _).setCell HGg.out _⟩
end Go.Proofs.YtfodkkdggajjaaaDoor

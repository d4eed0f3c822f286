/-
  In this text, one behind the other: YQuad, YList, YList2, YHex, YRun, YText, YText2, SixVar, FSmall, FReflect, FAs, FAsTop, FWord, FFind.
-/
import Derived.Deep.RegionHeld3
import Derived.Deep.AppendLies
import Derived.Deep.RegionWith
import Derived.BigQuiet
import Derived.Deep.LoopGhost
import Derived.Defers
import Derived.Recover
import Derived.RegionTactic
import Derived.ChangeAlike
import Derived.Test.YtfodkkdggajjaaaGreatDoorG2
/-
  The document's quad of layer 8, by its contract.
-/
namespace Go.Proofs.YtfodkkdggajjaaaGreatDoor
open Go.RowKit

/-- A slice of pieces of the call's own. -/
def MadeH (B : Nat) (w : World) (v : Value) (l : List Nat) : Prop := w.ownsRow B 23 1 v l.length (l.map fun n : Nat => Value.int .u16 (n : Int))
theorem Tryz.infoH : (Tryz.prog.info? 23).map (fun i => (i.zero, i.size, i.bytes)) = some (some (.int .u16 0), 1, 2) := by kernel_rfl
theorem MadeH.below {B : Nat} {w w' : World} {v : Value} {l : List Nat} (h : MadeH B w v l) (hb : Below w.heap.size w w') : MadeH B w' v l := own_below h hb
theorem MadeH.lower {B B' : Nat} {w : World} {v : Value} {l : List Nat} (h : MadeH B w v l) (hb : B' ≤ B) : MadeH B' w v l := by
  refine ⟨h.1, ?_⟩
  rcases h.2 with h2 | ⟨g, cap, cur, h3, h4, r⟩
  · exact .inl h2
  · exact .inr ⟨g, cap, cur, h3, by omega, r⟩
def QPost (o : Option (Nat × Nat)) (w : World) (e : Ending) (w' : World) : Prop := match o with
  | none => e = .returned (.slice none 0 0) ∧ Below w.heap.size w w'
  | some q => ∃ v, e = .returned v ∧ MadeH w.heap.size w' v [q.1, q.2] ∧ Below w.heap.size w w'
theorem small8_is {x : List UInt8} {n : Int} (h : optI (small8 x) = n) (w : World) (hs : x.length ≤ 10000) :
    Calls Tryz.prog 38 #[.string (btx x)] w fun e w' => e = .returned (.int .i64 n) ∧ w = w' := by
  have := small8_any (btx x) w (by rw [btx_size]; exact hs)
  rw [btx_toList, h] at this
  exact this
theorem quad8_some {s a b c d : List UInt8} {x y z t : Nat} (h : cut7 46 s = [a, b, c, d]) (h0 : small8 a = some x) (h1 : small8 b = some y) (h2 : small8 c = some z) (h3 : small8 d = some t) : quad8 s = some (256 * x + y, 256 * z + t) := by
  unfold quad8; rw [h]; simp [h0, h1, h2, h3]
theorem quad8_no0 {s a b c d : List UInt8} (h : cut7 46 s = [a, b, c, d]) (h0 : small8 a = none) : quad8 s = none := by
  unfold quad8; rw [h]; simp [h0]
theorem quad8_no1 {s a b c d : List UInt8} (h : cut7 46 s = [a, b, c, d]) (h0 : small8 b = none) : quad8 s = none := by
  unfold quad8; rw [h]; simp [h0]
theorem quad8_no2 {s a b c d : List UInt8} (h : cut7 46 s = [a, b, c, d]) (h0 : small8 c = none) : quad8 s = none := by
  unfold quad8; rw [h]; simp [h0]
theorem quad8_no3 {s a b c d : List UInt8} (h : cut7 46 s = [a, b, c, d]) (h0 : small8 d = none) : quad8 s = none := by
  unfold quad8; rw [h]; simp [h0]
theorem quad8_other {s : List UInt8} (h : (cut7 46 s).length ≠ 4) : quad8 s = none := by
  unfold quad8
  split
  · rename_i e; rw [e] at h; exact absurd rfl h
  · rfl
theorem cast_own8 {w : World} {B : Nat} {v : Value} {k x0 y0 : Nat} {l : List Value} (h : w.ownsRow B 23 1 v k (l ++ [.int .u16 (256 * (x0 : Int) + (y0 : Int))])) : w.ownsRow B 23 1 v k (l ++ [.int .u16 ((256 * x0 + y0 : Nat) : Int)]) := by
  rw [show ((256 * x0 + y0 : Nat) : Int) = 256 * (x0 : Int) + (y0 : Int) by omega]; exact h
theorem grown_undrew8 {w w1 : World} {o : Option Nat} (h : w.drew.grownBy w1 o) : w.grownBy w1 o := ⟨h.os, h.tape, h.output, h.size, h.block⟩
theorem MadeH.push {B : Nat} {wr w1 : World} {v v' : Value} {n : Nat} {l : List Nat} {tmp : Obj} (h : MadeH B wr v l) (hB : B ≤ wr.heap.size)
    (hown : w1.ownsRow B 23 1 v' (l.length + 1) ((l.map fun n : Nat => Value.int .u16 (n : Int)) ++ [.int .u16 (n : Int)])) (hg : (wr.alloc tmp).grownBy w1 v.ownBlock) : MadeH B w1 v' (l ++ [n]) ∧ Below B wr w1 := by
  refine ⟨?_, ((Below.refl B wr).alloc hB _).grown hg (by simp; omega) (own_ge (show wr.ownsRow B 23 1 v _ _ from h))⟩
  show w1.ownsRow B 23 1 v' _ _
  rw [List.length_append, List.map_append]
  exact hown

set_option maxHeartbeats 4000000 in
set_option maxRecDepth 100000 in
theorem quad8_any (s : ByteArray) (w : World) (hs : s.size ≤ 5000) :
    Calls Tryz.prog 27 #[.string s] w (QPost (quad8 s.data.toList) w) := by
  have HSp := Lib.hid (split7_any s 46 w (by omega))
  have hsl : s.data.toList.length = s.size := by simp
  have hlen := cut7_length 46 s.data.toList
  have hmem := fun p => cut7_mem (c := 46) (l := s.data.toList) (p := p)
  obtain ⟨i0, hi, hz0, hz1, hz2⟩ := info_parts Tryz.infoH
  have HI := Lib.hid (And.intro hi (And.intro hz0 (And.intro hz1 hz2)))
  clear hi hz0 hz1 hz2
  by_cases h4 : (cut7 46 s.data.toList).length = 4
  · match hl : cut7 46 s.data.toList, h4 with
    | [p0, p1, p2, p3], _ =>
    have HQ := Lib.hid hl
    rw [hl] at HSp hmem
    have L0 := Lib.hid (show p0.length ≤ 10000 by have := hmem p0 (by simp); omega)
    have L1 := Lib.hid (show p1.length ≤ 10000 by have := hmem p1 (by simp); omega)
    have L2 := Lib.hid (show p2.length ≤ 10000 by have := hmem p2 (by simp); omega)
    have L3 := Lib.hid (show p3.length ≤ 10000 by have := hmem p3 (by simp); omega)
    clear hl hmem hlen hsl h4
    go_enter Tryz.func27, Tryz.ntmps27
    go_wp2_with (go_at_call 26; refine (HSp.out).mono ?_
                 rintro e w1 ⟨v, rfl, hm, hb⟩
                 obtain ⟨A, c, hv, hcap, hstr⟩ := hm.strs
                 rw [show [p0, p1, p2, p3].length = 4 from rfl] at hv hcap
                 subst hv
                 obtain ⟨b, off, rfl, hblt, hc0⟩ := strs_at hstr (i := 0) (p := p0) rfl
                 obtain ⟨b1, off1, e1, _, hc1⟩ := strs_at hstr (i := 1) (p := p1) rfl
                 obtain ⟨b2, off2, e2, _, hc2⟩ := strs_at hstr (i := 2) (p := p2) rfl
                 obtain ⟨b3, off3, e3, _, hc3⟩ := strs_at hstr (i := 3) (p := p3) rfl
                 cases e1
                 cases e2
                 cases e3
                 rw [Nat.add_zero] at hc0
                 have HS := Lib.hid hb
                 clear hm hstr hb hcap)
    have HCs : Hid (∀ wr, Below w1.heap.size w1 wr → wr.cell? ⟨b, off, none⟩ = some (.string (btx p0)) ∧ wr.cell? ⟨b, off + 1, none⟩ = some (.string (btx p1)) ∧ wr.cell? ⟨b, off + 2, none⟩ = some (.string (btx p2)) ∧ wr.cell? ⟨b, off + 3, none⟩ = some (.string (btx p3))) := by
      intro wr h
      exact ⟨(h.cell (p := ⟨b, off, none⟩) hblt).trans hc0, (h.cell (p := ⟨b, off + 1, none⟩) hblt).trans hc1, (h.cell (p := ⟨b, off + 2, none⟩) hblt).trans hc2, (h.cell (p := ⟨b, off + 3, none⟩) hblt).trans hc3⟩
    clear hc0 hc1 hc2 hc3
    go_loopw [4, 5] (fun v4 i wr => ∃ (k : Nat) (l : List Nat), i = .int .i64 k ∧ MadeH w1.heap.size wr v4 l ∧ Below w1.heap.size w1 wr ∧
      ((k = 0 ∧ l = []) ∨ (∃ x y, k = 2 ∧ small8 p0 = some x ∧ small8 p1 = some y ∧ l = [256 * x + y]) ∨ (∃ x y z t, k = 4 ∧ small8 p0 = some x ∧ small8 p1 = some y ∧ small8 p2 = some z ∧ small8 p3 = some t ∧ l = [256 * x + y, 256 * z + t]))) (fun _ i _ => 4 - (intOf i).toNat)
    case atStart => exact ⟨0, [], rfl, World.ownsRow_nil _ _ _ _, Below.refl _ _, .inl ⟨rfl, rfl⟩⟩
    case round =>
      obtain ⟨k, l, rfl, hm, hb, hcase⟩ := hrel
      obtain ⟨c0, c1, c2, c3⟩ := HCs.out _ hb
      have HM := Lib.hid (And.intro hm hb)
      have hsz := hb.size
      clear hm hb
      rcases hcase with ⟨rfl, rfl⟩ | ⟨x, y, rfl, hx, hy, rfl⟩ | ⟨x, y, z, t, rfl, hx, hy, hz, ht, rfl⟩
      · cases h0 : small8 p0 with
        | none =>
          have HN := Lib.hid (quad8_no0 HQ.out h0)
          have HA : Hid (optI (small8 p0) = -1) := by show optI (small8 p0) = -1; rw [h0]; rfl
          clear h0
          go_wp2_with (go_at_call 38; (with_reducible refine (small8_is HA.out _ L0.out).mono ?_); rintro e w' ⟨rfl, rfl⟩)
          go_ret
          rw [HN.out]
          exact ⟨rfl, HS.out.trans (HM.out.2.mono HS.out.size)⟩
        | some x0 =>
          have HA := Lib.hid h0
          have HAi : Hid (optI (small8 p0) = (x0 : Int)) := by show optI (small8 p0) = (x0 : Int); rw [h0]; rfl
          have hx9 := small8_le h0
          clear h0
          cases h1 : small8 p1 with
          | none =>
            have HN := Lib.hid (quad8_no1 HQ.out h1)
            have HB1 : Hid (optI (small8 p1) = -1) := by show optI (small8 p1) = -1; rw [h1]; rfl
            clear h1
            go_wp2_with (first
              | (go_at_call 38; (with_reducible refine (small8_is HAi.out _ L0.out).mono ?_); rintro e w' ⟨rfl, rfl⟩)
              | (go_at_call 38; (with_reducible refine (small8_is HB1.out _ L1.out).mono ?_); rintro e w' ⟨rfl, rfl⟩))
            go_ret
            rw [HN.out]
            exact ⟨rfl, HS.out.trans (HM.out.2.mono HS.out.size)⟩
          | some y0 =>
            have HB_ := Lib.hid h1
            have HBi : Hid (optI (small8 p1) = (y0 : Int)) := by show optI (small8 p1) = (y0 : Int); rw [h1]; rfl
            have hy9 := small8_le h1
            clear h1
            have hw1 : IntKind.i64.wrap (256 * (x0 : Int)) = 256 * (x0 : Int) := IntWalk.i64_in _ (by omega)
            have hw2 : IntKind.i64.wrap (256 * (x0 : Int) + (y0 : Int)) = 256 * (x0 : Int) + (y0 : Int) := IntWalk.i64_in _ (by omega)
            have hw3 : IntKind.u16.wrap (256 * (x0 : Int) + (y0 : Int)) = 256 * (x0 : Int) + (y0 : Int) := by simp [IntKind.wrap, IntKind.bits, IntKind.signed]; omega
            go_wp2_with (first
              | (go_at_call 38; (with_reducible refine (small8_is HAi.out _ L0.out).mono ?_); rintro e w' ⟨rfl, rfl⟩)
              | (go_at_call 38; (with_reducible refine (small8_is HBi.out _ L1.out).mono ?_); rintro e w' ⟨rfl, rfl⟩))
            have hin0 : (0 : Int) ≤ 0 := by omega
            have hin1 : (0 : Int) < 4 := by omega
            have hin2 : (1 : Int) < 4 := by omega
            have hin3 : (0 : Int) ≤ 1 := by omega
            have hin4 : IntKind.i64.wrap (0 + 1) = 1 := by decide
            have hin5 : IntKind.i64.wrap 1 = 1 := by decide
            go_region_held3 (fun w' => w'.cell? ⟨b, off, none⟩ = some (.string (btx p0)) ∧ w'.cell? ⟨b, off + 1, none⟩ = some (.string (btx p1))) (first | exact ⟨c0, c1⟩ | exact ⟨d0, d1⟩ | go_keep) (first
              | (refine step_append_lies _ (by rfl) (.tmp 30) (.tmp 45) 42 (by rfl) w1.heap.size 23 i0 (.int .u16 0) 1 2 Tryz.underlying42 HI.out.1 HI.out.2.1 HI.out.2.2.1 HI.out.2.2.2 rfl (by decide) _ _ _ (by rfl) (HM.out.1.alloc (.cells #[.int .u16 (256 * (x0 : Int) + (y0 : Int))] 23)) ⟨wr.heap.size, 0, none⟩ 1 1 [.int .u16 (256 * (x0 : Int) + (y0 : Int))] (by rfl) rfl (cell_one_new wr _ _) (by simp [Value.oneCell']) (by decide) (by simp [maxLen]) (by simp) (by simp; omega) (wr.heap.size + 1) (by simp) ?_
                 intro g cap w2 hown hgrow hat hlt
                 have hp := HM.out.1.push (n := 256 * x0 + y0) (tmp := .cells #[.int .u16 (256 * (x0 : Int) + (y0 : Int))] 23) hsz (cast_own8 hown) (grown_undrew8 hgrow)
                 obtain ⟨d0, d1, d2, d3⟩ := HCs.out _ (HM.out.2.trans hp.2))
              | (go_at_call 38; (with_reducible refine (small8_is HAi.out _ L0.out).mono ?_); rintro e w' ⟨rfl, rfl⟩)
              | (go_at_call 38; (with_reducible refine (small8_is HBi.out _ L1.out).mono ?_); rintro e w' ⟨rfl, rfl⟩))
            all_goals
              go_wp2
              go_roundw
              case rel =>
                exact ⟨2, _, by first | rfl | go_num, hp.1, HM.out.2.trans hp.2, .inr (.inl ⟨x0, y0, rfl, (by first | rfl | exact HA.out), (by first | rfl | exact HB_.out), rfl⟩)⟩
              case measure => simp [intOf]
      · have HX0 := Lib.hid hx
        have HX1 := Lib.hid hy
        clear hx hy
        cases h0 : small8 p2 with
        | none =>
          have HN := Lib.hid (quad8_no2 HQ.out h0)
          have HA : Hid (optI (small8 p2) = -1) := by show optI (small8 p2) = -1; rw [h0]; rfl
          clear h0
          go_wp2_with (go_at_call 38; (with_reducible refine (small8_is HA.out _ L2.out).mono ?_); rintro e w' ⟨rfl, rfl⟩)
          go_ret
          rw [HN.out]
          exact ⟨rfl, HS.out.trans (HM.out.2.mono HS.out.size)⟩
        | some x0 =>
          have HA := Lib.hid h0
          have HAi : Hid (optI (small8 p2) = (x0 : Int)) := by show optI (small8 p2) = (x0 : Int); rw [h0]; rfl
          have hx9 := small8_le h0
          clear h0
          cases h1 : small8 p3 with
          | none =>
            have HN := Lib.hid (quad8_no3 HQ.out h1)
            have HB1 : Hid (optI (small8 p3) = -1) := by show optI (small8 p3) = -1; rw [h1]; rfl
            clear h1
            go_wp2_with (first
              | (go_at_call 38; (with_reducible refine (small8_is HAi.out _ L2.out).mono ?_); rintro e w' ⟨rfl, rfl⟩)
              | (go_at_call 38; (with_reducible refine (small8_is HB1.out _ L3.out).mono ?_); rintro e w' ⟨rfl, rfl⟩))
            go_ret
            rw [HN.out]
            exact ⟨rfl, HS.out.trans (HM.out.2.mono HS.out.size)⟩
          | some y0 =>
            have HB_ := Lib.hid h1
            have HBi : Hid (optI (small8 p3) = (y0 : Int)) := by show optI (small8 p3) = (y0 : Int); rw [h1]; rfl
            have hy9 := small8_le h1
            clear h1
            have hw1 : IntKind.i64.wrap (256 * (x0 : Int)) = 256 * (x0 : Int) := IntWalk.i64_in _ (by omega)
            have hw2 : IntKind.i64.wrap (256 * (x0 : Int) + (y0 : Int)) = 256 * (x0 : Int) + (y0 : Int) := IntWalk.i64_in _ (by omega)
            have hw3 : IntKind.u16.wrap (256 * (x0 : Int) + (y0 : Int)) = 256 * (x0 : Int) + (y0 : Int) := by simp [IntKind.wrap, IntKind.bits, IntKind.signed]; omega
            go_wp2_with (first
              | (go_at_call 38; (with_reducible refine (small8_is HAi.out _ L2.out).mono ?_); rintro e w' ⟨rfl, rfl⟩)
              | (go_at_call 38; (with_reducible refine (small8_is HBi.out _ L3.out).mono ?_); rintro e w' ⟨rfl, rfl⟩))
            have hin0 : (0 : Int) ≤ 2 := by omega
            have hin1 : (2 : Int) < 4 := by omega
            have hin2 : (3 : Int) < 4 := by omega
            have hin3 : (0 : Int) ≤ 3 := by omega
            have hin4 : IntKind.i64.wrap (2 + 1) = 3 := by decide
            have hin5 : IntKind.i64.wrap 3 = 3 := by decide
            go_region_held3 (fun w' => w'.cell? ⟨b, off + 2, none⟩ = some (.string (btx p2)) ∧ w'.cell? ⟨b, off + 3, none⟩ = some (.string (btx p3))) (first | exact ⟨c2, c3⟩ | exact ⟨d2, d3⟩ | go_keep) (first
              | (refine step_append_lies _ (by rfl) (.tmp 30) (.tmp 45) 42 (by rfl) w1.heap.size 23 i0 (.int .u16 0) 1 2 Tryz.underlying42 HI.out.1 HI.out.2.1 HI.out.2.2.1 HI.out.2.2.2 rfl (by decide) _ _ _ (by rfl) (HM.out.1.alloc (.cells #[.int .u16 (256 * (x0 : Int) + (y0 : Int))] 23)) ⟨wr.heap.size, 0, none⟩ 1 1 [.int .u16 (256 * (x0 : Int) + (y0 : Int))] (by rfl) rfl (cell_one_new wr _ _) (by simp [Value.oneCell']) (by decide) (by simp [maxLen]) (by simp) (by simp; omega) (wr.heap.size + 1) (by simp) ?_
                 intro g cap w2 hown hgrow hat hlt
                 have hp := HM.out.1.push (n := 256 * x0 + y0) (tmp := .cells #[.int .u16 (256 * (x0 : Int) + (y0 : Int))] 23) hsz (cast_own8 hown) (grown_undrew8 hgrow)
                 obtain ⟨d0, d1, d2, d3⟩ := HCs.out _ (HM.out.2.trans hp.2))
              | (go_at_call 38; (with_reducible refine (small8_is HAi.out _ L2.out).mono ?_); rintro e w' ⟨rfl, rfl⟩)
              | (go_at_call 38; (with_reducible refine (small8_is HBi.out _ L3.out).mono ?_); rintro e w' ⟨rfl, rfl⟩))
            all_goals
              go_wp2
              go_roundw
              case rel =>
                exact ⟨4, _, by first | rfl | go_num, hp.1, HM.out.2.trans hp.2, .inr (.inr ⟨x, y, x0, y0, rfl, HX0.out, HX1.out, (by first | rfl | exact HA.out), (by first | rfl | exact HB_.out), rfl⟩)⟩
              case measure => simp [intOf]
      · have HN := Lib.hid (quad8_some HQ.out hx hy hz ht)
        clear hx hy hz ht
        go_wp2
        go_ret
        rw [HN.out]
        exact ⟨_, rfl, HM.out.1.lower HS.out.size, HS.out.trans (HM.out.2.mono HS.out.size)⟩
  · have HN := Lib.hid (quad8_other h4)
    obtain ⟨l, hl⟩ : ∃ l, cut7 46 s.data.toList = l := ⟨_, rfl⟩
    rw [hl] at HSp h4 hlen
    have hll : l.length ≤ 5001 := by omega
    clear hl hmem hlen hsl
    have h4i : ((l.length : Int) != 4) = true := bne_iff_ne.2 (by omega)
    go_enter Tryz.func27, Tryz.ntmps27
    go_wp2_with (go_at_call 26; refine (HSp.out).mono ?_
                 rintro e w1 ⟨v, rfl, hm, hb⟩
                 obtain ⟨A, c, hv, hcap, hstr⟩ := hm.strs
                 subst hv
                 have HS := Lib.hid hb
                 clear hm hstr hb hcap)
    go_ret
    rw [HN.out]
    exact ⟨rfl, HS.out⟩
end Go.Proofs.YtfodkkdggajjaaaGreatDoor

/-
  The document's list of layer 8, by its contract.
-/
namespace Go.Proofs.YtfodkkdggajjaaaGreatDoor
open Go.RowKit

/-- 'append(v, x...)', both slices of pieces of the call's own. -/
theorem append_h {ops : Array Oper} {rest : List Oper} {o : Oper} {a : Act} {Q : Exit → Act → World → Prop} {w : World} (hgd : o.guard = none) (s x : Operand)
    (ho : o.op = .call { callee := .builtin .append, args := #[s, x], argTypes := #[42, 42] })
    (B B' : Nat) (v vx : Value) (l lx : List Nat) (hs : a.eval s = v) (hx : a.eval x = vx) (h1 : MadeH B w v l) (h2 : MadeH B' w vx lx) (hl : l.length + lx.length ≤ 20000) (hB : B ≤ w.heap.size)
    (hne : 0 < lx.length)
    (h : ∀ v' w', MadeH B w' v' (l ++ lx) → Below B w w' → wpList Tryz.prog ops Q rest (a.put o.dst v') w') : wpList Tryz.prog ops Q (o :: rest) a w := by
  obtain ⟨i0, hi, hz0, hz1, hz2⟩ := info_parts Tryz.infoH
  have h2' : w.ownsRow B' 23 1 vx lx.length (lx.map fun n : Nat => Value.int .u16 (n : Int)) := h2
  rcases h2.2 with ⟨rfl, h0⟩ | ⟨g, cap, cur, rfl, _⟩
  · omega
  · refine wpList_append_own w hgd s x _ ho B 23 i0 _ 1 2 Tryz.underlying42 hi hz0 hz1 hz2 rfl (by decide) v _ _ hs h1 ⟨g, 0, none⟩ lx.length cap (lx.map fun n : Nat => Value.int .u16 (n : Int)) hx (by simp) (fun j u hu => ?_) (fun u hu => ?_) (by simp only [maxLen]; omega) (by omega) hB (fun v' w' hown hg _ => h v' w' ?_ ?_)
    · rw [add_at, Nat.zero_add, h2'.cellAt (g := g) j (by have := (List.getElem?_eq_some_iff.1 hu).1; simpa using this)]
      exact hu
    · obtain ⟨n, _, rfl⟩ := List.mem_map.1 hu
      rfl
    · show w'.ownsRow B 23 1 v' _ _
      rw [List.length_append, List.map_append]; exact hown
    · exact (Below.refl B w).grown hg hB (own_ge (show w.ownsRow B 23 1 v _ _ from h1))
theorem madeH_one (w : World) (n : Nat) : MadeH w.heap.size (w.alloc (.cells #[.int .u16 (n : Int)] 23)) (.slice (some ⟨w.heap.size, 0, none⟩) 1 1) [n] :=
  ⟨by simp, .inr ⟨w.heap.size, 1, #[.int .u16 (n : Int)], rfl, Nat.le_refl _, heap_alloc_new w _, Nat.le_refl _, by simp [maxLen], by simp, by simp⟩⟩
theorem MadeH.shape {B : Nat} {w : World} {v : Value} {l : List Nat} (h : MadeH B w v l) : ∃ A c, v = .slice A l.length c := by
  rcases h.2 with ⟨rfl, h0⟩ | ⟨g, cap, cur, h, _⟩
  · exact ⟨none, 0, by rw [h0]⟩
  · exact ⟨_, _, h⟩
theorem value8_is {x : List UInt8} {n : Int} (h : optI (value8 x) = n) (w : World) (hs : x.length ≤ 10000) :
    Calls Tryz.prog 28 #[.string (btx x)] w fun e w' => e = .returned (.int .i64 n) ∧ w = w' := by
  have := value8_any (btx x) w (by rw [btx_size]; exact hs)
  rw [btx_toList, h] at this
  exact this
theorem quad8_is {x : List UInt8} {o : Option (Nat × Nat)} (h : quad8 x = o) (w : World) (hs : x.length ≤ 5000) : Calls Tryz.prog 27 #[.string (btx x)] w (QPost o w) := by
  have := quad8_any (btx x) w (by rw [btx_size]; exact hs)
  rw [btx_toList, h] at this
  exact this
/-- What the last part is. -/
def one8 (last : Bool) (p : List UInt8) : Option (List Nat) := match (if last then quad8 p else none) with
  | some (x, y) => some [x, y]
  | none => (value8 p).map fun n => [n]
theorem pieces8_one (last : Bool) (p : List UInt8) : pieces8 last [p] = one8 last p := rfl
theorem pieces8_more {last : Bool} {p : List UInt8} {ps : List (List UInt8)} (h : ps ≠ []) : pieces8 last (p :: ps) = match value8 p, pieces8 last ps with
    | some n, some ns => some (n :: ns)
    | _, _ => none := by
  cases ps with
  | nil => exact absurd rfl h
  | cons q ps => rfl
theorem pieces8_step {last : Bool} {p : List UInt8} {ps : List (List UInt8)} {out : List Nat} {R : Option (List Nat)} {n : Nat} (h : ps ≠ []) (hR : R = (pieces8 last (p :: ps)).map (out ++ ·)) (hp : value8 p = some n) : R = (pieces8 last ps).map ((out ++ [n]) ++ ·) := by
  rw [hR, pieces8_more h, hp]
  cases pieces8 last ps with
  | none => rfl
  | some ns => simp
theorem pieces8_bad {last : Bool} {p : List UInt8} {ps : List (List UInt8)} {out : List Nat} {R : Option (List Nat)} (h : ps ≠ []) (hR : R = (pieces8 last (p :: ps)).map (out ++ ·)) (hp : value8 p = none) : R = none := by
  rw [hR, pieces8_more h, hp]; rfl
def LPost (o : Option (List Nat)) (w : World) (e : Ending) (w' : World) : Prop := match o with
  | none => e = .returned (.tuple #[.slice none 0 0, .bool false]) ∧ Below w.heap.size w w'
  | some l => ∃ v, e = .returned (.tuple #[v, .bool true]) ∧ MadeH w.heap.size w' v l ∧ Below w.heap.size w w'
end Go.Proofs.YtfodkkdggajjaaaGreatDoor

/-
  The document's list of layer 8, by its contract: the walk.
-/
namespace Go.Proofs.YtfodkkdggajjaaaGreatDoor
open Go.RowKit

set_option maxHeartbeats 4000000 in
set_option maxRecDepth 100000 in
theorem list8_none (last : Bool) (w : World) : Calls Tryz.prog 15 #[.string ⟨#[]⟩, .bool last] w (LPost (some []) w) := by
  go_enter Tryz.func15, Tryz.ntmps15
  go_wp2
  go_ret2
  exact ⟨_, rfl, World.ownsRow_nil _ _ _ _, Below.refl _ _⟩

set_option maxHeartbeats 4000000 in
set_option maxRecDepth 100000 in
theorem list8_some (s : ByteArray) (last : Bool) (w : World) (hs : s.size ≤ 5000) (hpos : 0 < s.size) :
    Calls Tryz.prog 15 #[.string s, .bool last] w (LPost (pieces8 last (cut7 58 s.data.toList)) w) := by
  have HSp := Lib.hid (split7_any s 58 w (by omega))
  have hsl : s.data.toList.length = s.size := by simp
  have hlen := cut7_length 58 s.data.toList
  have hne := cut7_ne 58 s.data.toList
  have hmem := fun p => cut7_mem (c := 58) (l := s.data.toList) (p := p)
  have hz : ((s.size : Int) == 0) = false := beq_eq_false_iff_ne.2 (by omega)
  obtain ⟨ps, hl⟩ : ∃ l, cut7 58 s.data.toList = l := ⟨_, rfl⟩
  rw [hl] at HSp hlen hne hmem ⊢
  have hpl : ps.length ≤ 5001 := by omega
  have hpos2 : 0 < ps.length := by cases ps with
    | nil => exact absurd rfl hne
    | cons p ps => simp
  have HMm : Hid (∀ p ∈ ps, p.length ≤ 5000) := fun p hp => by have := hmem p hp; omega
  obtain ⟨R, hR⟩ : ∃ R, pieces8 last ps = R := ⟨_, rfl⟩
  rw [hR]
  have HR := Lib.hid hR
  clear hl hlen hne hmem hsl hR
  go_enter Tryz.func15, Tryz.ntmps15
  go_wp2_with (go_at_call 26; refine (HSp.out).mono ?_
               rintro e w1 ⟨v, rfl, hm, hb⟩
               obtain ⟨A, c, hv, hcap, hstr⟩ := hm.strs
               subst hv
               have HSt := Lib.hid hstr
               have HS := Lib.hid hb
               clear hm hstr hb hcap)
  go_loopw [6, 8] (fun v6 i wr => ∃ (k : Nat) (out : List Nat), i = .int .i64 k ∧ k ≤ ps.length ∧ out.length ≤ k + 1 ∧ MadeH w1.heap.size wr v6 out ∧ Below w1.heap.size w1 wr ∧ ((k < ps.length ∧ out.length ≤ k ∧ R = (pieces8 last (ps.drop k)).map (out ++ ·)) ∨ (k = ps.length ∧ R = some out))) (fun _ i _ => ps.length - (intOf i).toNat)
  case atStart => exact ⟨0, [], rfl, by omega, by simp, World.ownsRow_nil _ _ _ _, Below.refl _ _, .inl ⟨hpos2, by simp, by rw [List.drop_zero, HR.out]; cases R <;> simp⟩⟩
  case round =>
    obtain ⟨k, out, rfl, hk, hol, hm, hb, hcase⟩ := hrel
    have HM2 := Lib.hid (And.intro hm hb)
    have hsz := hb.size
    rcases hcase with ⟨hlt, hol2, hRk⟩ | ⟨hke, hRk⟩
    · have hx := List.getElem?_eq_getElem hlt
      have hdr := List.drop_eq_getElem_cons hlt
      have HLx0 := Lib.hid (HMm.out _ (List.getElem_mem hlt))
      obtain ⟨x, hxx⟩ : ∃ x, ps[k] = x := ⟨_, rfl⟩
      rw [hxx] at hx HLx0 hdr
      rw [hdr] at hRk
      have HLx : Hid (x.length ≤ 10000) := by have := HLx0.out; show x.length ≤ 10000; omega
      obtain ⟨b, off, rfl, hblt, hc⟩ := strs_at (HSt.out.below hb) hx
      have HRk := Lib.hid hRk
      clear hx hxx hdr hm hb hRk
      by_cases hmore : k + 1 < ps.length
      · have HNe : Hid (ps.drop (k + 1) ≠ []) := by
          intro e
          have := congrArg List.length e
          rw [List.length_drop] at this
          simp at this
          omega
        have hki : ((k : Int) == (ps.length : Int) - 1) = false := beq_eq_false_iff_ne.2 (by omega)
        cases hn : value8 x with
        | none =>
          have HN := Lib.hid (pieces8_bad HNe.out HRk.out hn)
          have HVi : Hid (optI (value8 x) = -1) := by show optI (value8 x) = -1; rw [hn]; rfl
          clear hn
          cases last with
          | true =>
            go_wp2_with (go_at_call 28; (with_reducible refine (value8_is HVi.out _ HLx.out).mono ?_); rintro e w' ⟨rfl, rfl⟩)
            go_ret2
            rw [HN.out]
            exact ⟨rfl, HS.out.trans (HM2.out.2.mono HS.out.size)⟩
          | false =>
            go_wp2_with (go_at_call 28; (with_reducible refine (value8_is HVi.out _ HLx.out).mono ?_); rintro e w' ⟨rfl, rfl⟩)
            go_ret2
            rw [HN.out]
            exact ⟨rfl, HS.out.trans (HM2.out.2.mono HS.out.size)⟩
        | some n =>
          have HN := Lib.hid (pieces8_step HNe.out HRk.out hn)
          have hn6 := value8_lt hn
          have HVi : Hid (optI (value8 x) = (n : Int)) := by show optI (value8 x) = (n : Int); rw [hn]; rfl
          clear hn
          cases last with
          | true =>
            go_wp2_with (first
              | (go_at_call 28; (with_reducible refine (value8_is HVi.out _ HLx.out).mono ?_); rintro e w' ⟨rfl, rfl⟩)
              | (at_builtin
                 refine append_h rfl (.tmp 50) (.tmp 57) rfl w1.heap.size wr.heap.size _ _ out [n] rfl rfl (HM2.out.1.below ((Below.refl _ _).alloc (Nat.le_refl _) (.cells #[.int .u16 (n : Int)] 23))) (madeH_one wr n) (by simp; omega) (by have := HM2.out.2.size; simp; omega) (by simp) ?_
                 intro v2 w2 hm2 hb2
                 have HM3 := Lib.hid (And.intro hm2 (HM2.out.2.trans (((Below.refl w1.heap.size wr).alloc HM2.out.2.size _).trans hb2)))
                 clear hm2 hb2))
            go_roundw
            case rel => exact ⟨k + 1, out ++ [n], by go_num, by omega, by simp; omega, HM3.out.1, HM3.out.2, .inl ⟨hmore, by simp; omega, HN.out⟩⟩
            case measure => simp [intOf]; omega
          | false =>
            go_wp2_with (first
              | (go_at_call 28; (with_reducible refine (value8_is HVi.out _ HLx.out).mono ?_); rintro e w' ⟨rfl, rfl⟩)
              | (at_builtin
                 refine append_h rfl (.tmp 50) (.tmp 57) rfl w1.heap.size wr.heap.size _ _ out [n] rfl rfl (HM2.out.1.below ((Below.refl _ _).alloc (Nat.le_refl _) (.cells #[.int .u16 (n : Int)] 23))) (madeH_one wr n) (by simp; omega) (by have := HM2.out.2.size; simp; omega) (by simp) ?_
                 intro v2 w2 hm2 hb2
                 have HM3 := Lib.hid (And.intro hm2 (HM2.out.2.trans (((Below.refl w1.heap.size wr).alloc HM2.out.2.size _).trans hb2)))
                 clear hm2 hb2))
            go_roundw
            case rel => exact ⟨k + 1, out ++ [n], by go_num, by omega, by simp; omega, HM3.out.1, HM3.out.2, .inl ⟨hmore, by simp; omega, HN.out⟩⟩
            case measure => simp [intOf]; omega
      · have hki : ((k : Int) == (ps.length : Int) - 1) = true := beq_iff_eq.2 (by omega)
        have hend : ps.drop (k + 1) = [] := List.drop_eq_nil_of_le (by omega)
        have HRo : Hid (R = (one8 last x).map (out ++ ·)) := by show R = (one8 last x).map (out ++ ·); rw [HRk.out, hend, pieces8_one]
        clear hend
        cases last with
        | false =>
          have HR1 : Hid (R = ((value8 x).map fun n => [n]).map (out ++ ·)) := HRo.out
          cases hn : value8 x with
          | none =>
            have HN : Hid (R = none) := by show R = none; rw [HR1.out, hn]; rfl
            have HVi : Hid (optI (value8 x) = -1) := by show optI (value8 x) = -1; rw [hn]; rfl
            clear hn
            go_wp2_with (first
              | (go_at_call 28; (with_reducible refine (value8_is HVi.out _ HLx.out).mono ?_); rintro e w' ⟨rfl, rfl⟩))
            go_ret2
            rw [HN.out]
            exact ⟨rfl, HS.out.trans (HM2.out.2.mono HS.out.size)⟩
          | some n =>
            have HN : Hid (R = some (out ++ [n])) := by show R = some (out ++ [n]); rw [HR1.out, hn]; rfl
            have hn6 := value8_lt hn
            have HVi : Hid (optI (value8 x) = (n : Int)) := by show optI (value8 x) = (n : Int); rw [hn]; rfl
            clear hn
            go_wp2_with (first
              | (go_at_call 28; (with_reducible refine (value8_is HVi.out _ HLx.out).mono ?_); rintro e w' ⟨rfl, rfl⟩)
              | (at_builtin
                 refine append_h rfl (.tmp 50) (.tmp 57) rfl w1.heap.size wr.heap.size _ _ out [n] rfl rfl (HM2.out.1.below ((Below.refl _ _).alloc (Nat.le_refl _) (.cells #[.int .u16 (n : Int)] 23))) (madeH_one wr n) (by simp; omega) (by have := HM2.out.2.size; simp; omega) (by simp) ?_
                 intro v2 w2 hm2 hb2
                 have HM3 := Lib.hid (And.intro hm2 (HM2.out.2.trans (((Below.refl w1.heap.size wr).alloc HM2.out.2.size _).trans hb2)))
                 clear hm2 hb2))
            go_roundw
            case rel => exact ⟨k + 1, out ++ [n], by go_num, by omega, by simp; omega, HM3.out.1, HM3.out.2, .inr ⟨by omega, HN.out⟩⟩
            case measure => simp [intOf]; omega
        | true =>
          cases hq : quad8 x with
          | none =>
            have HQ := Lib.hid hq
            have HR1 : Hid (R = ((value8 x).map fun n => [n]).map (out ++ ·)) := by
              show R = ((value8 x).map fun n => [n]).map (out ++ ·)
              rw [HRo.out]; unfold one8; rw [if_pos rfl, hq]
            clear hq
            cases hn : value8 x with
            | none =>
              have HN : Hid (R = none) := by show R = none; rw [HR1.out, hn]; rfl
              have HVi : Hid (optI (value8 x) = -1) := by show optI (value8 x) = -1; rw [hn]; rfl
              clear hn
              go_wp2_with (first
                | (go_at_call 28; (with_reducible refine (value8_is HVi.out _ HLx.out).mono ?_); rintro e w' ⟨rfl, rfl⟩)
                | (go_at_call 27; refine (quad8_is HQ.out _ HLx0.out).mono ?_; rintro e w3 ⟨rfl, hb3⟩; have hc3 := (hb3.cell (p := ⟨b, off + k, none⟩) hblt).trans hc; have HM2 := Lib.hid (And.intro (HM2.out.1.below hb3) (HM2.out.2.trans (hb3.mono HM2.out.2.size))); clear hb3 hc))
              go_ret2
              rw [HN.out]
              exact ⟨rfl, HS.out.trans (HM2.out.2.mono HS.out.size)⟩
            | some n =>
              have HN : Hid (R = some (out ++ [n])) := by show R = some (out ++ [n]); rw [HR1.out, hn]; rfl
              have hn6 := value8_lt hn
              have HVi : Hid (optI (value8 x) = (n : Int)) := by show optI (value8 x) = (n : Int); rw [hn]; rfl
              clear hn
              go_wp2_with (first
                | (go_at_call 28; (with_reducible refine (value8_is HVi.out _ HLx.out).mono ?_); rintro e w' ⟨rfl, rfl⟩)
                | (go_at_call 27; refine (quad8_is HQ.out _ HLx0.out).mono ?_; rintro e w3 ⟨rfl, hb3⟩; have hc3 := (hb3.cell (p := ⟨b, off + k, none⟩) hblt).trans hc; have HM2 := Lib.hid (And.intro (HM2.out.1.below hb3) (HM2.out.2.trans (hb3.mono HM2.out.2.size))); clear hb3 hc)
                | (at_builtin
                   refine append_h rfl (.tmp 50) (.tmp 57) rfl w1.heap.size w3.heap.size _ _ out [n] rfl rfl (HM2.out.1.below ((Below.refl _ _).alloc (Nat.le_refl _) (.cells #[.int .u16 (n : Int)] 23))) (madeH_one w3 n) (by simp; omega) (by have := HM2.out.2.size; simp; omega) (by simp) ?_
                   intro v2 w2 hm2 hb2
                   have HM3 := Lib.hid (And.intro hm2 (HM2.out.2.trans (((Below.refl w1.heap.size w3).alloc HM2.out.2.size _).trans hb2)))
                   clear hm2 hb2))
              go_roundw
              case rel => exact ⟨k + 1, out ++ [n], by go_num, by omega, by simp; omega, HM3.out.1, HM3.out.2, .inr ⟨by omega, HN.out⟩⟩
              case measure => simp [intOf]; omega
          | some pq =>
            obtain ⟨p, q⟩ := pq
            have HQa := Lib.hid hq
            have HQb := Lib.hid hq
            have HN : Hid (R = some (out ++ [p, q])) := by
              show R = some (out ++ [p, q])
              rw [HRo.out]; unfold one8; rw [if_pos rfl, hq]; rfl
            clear hq
            go_wp2_with (first
              | (go_at_call 27; refine (quad8_is HQa.out _ HLx0.out).mono ?_; clear HQa; rintro e w3 ⟨v3, rfl, hm3, hb3⟩; obtain ⟨A3, c3, hv3⟩ := hm3.shape; rw [show [p, q].length = 2 from rfl] at hv3; subst hv3; have hc3 := (hb3.cell (p := ⟨b, off + k, none⟩) hblt).trans hc; have hblt3 := Nat.lt_of_lt_of_le hblt hb3.size; have HM2 := Lib.hid (And.intro (HM2.out.1.below hb3) (HM2.out.2.trans (hb3.mono HM2.out.2.size))); clear hb3 hc hm3)
              | (go_at_call 27; refine (quad8_is HQb.out _ HLx0.out).mono ?_; clear HQb; rintro e w4 ⟨v4, rfl, hm4, hb4⟩; have HM4 := Lib.hid hm4; have HM2 := Lib.hid (And.intro (HM2.out.1.below hb4) (HM2.out.2.trans (hb4.mono HM2.out.2.size))); clear hb4 hc3 hm4)
              | (at_builtin
                 refine append_h rfl (.tmp 37) (.tmp 42) rfl w1.heap.size _ _ _ out [p, q] rfl rfl HM2.out.1 HM4.out (by simp; omega) HM2.out.2.size (by simp) ?_
                 intro v5 w5 hm5 hb5
                 have HM3 := Lib.hid (And.intro hm5 (HM2.out.2.trans hb5))
                 clear hm5 hb5))
            go_roundw
            case rel => exact ⟨k + 1, out ++ [p, q], by go_num, by omega, by simp; omega, HM3.out.1, HM3.out.2, .inr ⟨by omega, HN.out⟩⟩
            case measure => simp [intOf]; omega
    · have hki : ¬ (k : Int) < (ps.length : Int) := by omega
      have HRk := Lib.hid hRk
      clear hRk hke hm hb
      go_wp2
      go_ret2
      rw [HRk.out]
      exact ⟨_, rfl, HM2.out.1.lower HS.out.size, HS.out.trans (HM2.out.2.mono HS.out.size)⟩
end Go.Proofs.YtfodkkdggajjaaaGreatDoor

/-
  The document's Hex and run of layer 8, by their contracts.
-/
namespace Go.Proofs.YtfodkkdggajjaaaGreatDoor
open Go.RowKit

theorem fig16 : ∀ n : Fin 16, (⟨#[48, 49, 50, 51, 52, 53, 54, 55, 56, 57, 97, 98, 99, 100, 101, 102]⟩ : ByteArray).extract n.val (n.val + 1) = btx [hexd n.val] := by decide +kernel
theorem hex8_small {n : Nat} (h : n < 16) : hex8 n = [hexd n] := by unfold hex8; rw [if_pos h]
theorem hex8_more {n : Nat} (h : ¬ n < 16) : hex8 n = hex8 (n / 16) ++ [hexd (n % 16)] := by
  conv => lhs; unfold hex8
  rw [if_neg h]
theorem btx_app8 (a b : List UInt8) : btx (a ++ b) = btx a ++ btx b := by
  apply ByteArray.ext
  rw [ByteArray.data_append]
  apply Array.toList_inj.1
  simp [btx]
def Quiet8 (s : ByteArray) (w : World) (e : Ending) (w' : World) : Prop := e = .returned (.string s) ∧ Below w.heap.size w w'
theorem below_drew8 {w w1 : World} (h : Below w.drew.heap.size w.drew w1) : Below w.heap.size w w1 := (below_drewN (Below.refl _ w) 1).trans h

end Go.Proofs.YtfodkkdggajjaaaGreatDoor

/-
  The document's run of layer 8, by its contract.
-/
namespace Go.Proofs.YtfodkkdggajjaaaGreatDoor
open Go.RowKit

/-- An address as a value. -/
def addr8 (a0 a1 a2 a3 a4 a5 a6 a7 : Nat) : Value := .agg #[.int .u16 (a0 : Int), .int .u16 (a1 : Int), .int .u16 (a2 : Int), .int .u16 (a3 : Int), .int .u16 (a4 : Int), .int .u16 (a5 : Int), .int .u16 (a6 : Int), .int .u16 (a7 : Int)]
theorem run8_is {l : List Nat} {k : Nat} (h : ∀ j, j < k → l[j]? = some 0) (he : k = l.length ∨ ∃ x, l[k]? = some x ∧ x ≠ 0) : run8 l = k := by
  induction l generalizing k with
  | nil =>
    rcases he with he | ⟨x, hx, _⟩
    · exact he.symm
    · simp at hx
  | cons a l ih =>
    unfold run8
    cases k with
    | zero =>
      rcases he with he | ⟨x, hx, hne⟩
      · simp at he
      · simp at hx; subst hx; rw [if_neg hne]
    | succ k =>
      have h0 := h 0 (by omega)
      simp at h0
      rw [if_pos h0, ih (k := k) (fun j hj => by have := h (j + 1) (by omega); simpa using this)]
      rcases he with he | ⟨x, hx, hne⟩
      · exact .inl (by simpa using he)
      · exact .inr ⟨x, by simpa using hx, hne⟩
theorem eight_at {a0 a1 a2 a3 a4 a5 a6 a7 : Nat} (w : World) (t : TypeId) : ∀ k, k < 8 → (w.alloc (.cells #[.int .u16 (a0 : Int), .int .u16 (a1 : Int), .int .u16 (a2 : Int), .int .u16 (a3 : Int), .int .u16 (a4 : Int), .int .u16 (a5 : Int), .int .u16 (a6 : Int), .int .u16 (a7 : Int)] t)).cell? ⟨w.heap.size, k, none⟩ = some (.int .u16 (([a0, a1, a2, a3, a4, a5, a6, a7].getD k 0 : Nat) : Int)) := by
  intro k hk
  rw [World.cell?_alloc_at _ _ _ _ rfl]
  match k, hk with
  | 0, _ => rfl
  | 1, _ => rfl
  | 2, _ => rfl
  | 3, _ => rfl
  | 4, _ => rfl
  | 5, _ => rfl
  | 6, _ => rfl
  | 7, _ => rfl
theorem getD_at8 {l : List Nat} {k : Nat} (h : k < l.length) : l[k]? = some (l.getD k 0) := by
  rw [List.getD_eq_getElem?_getD, List.getElem?_eq_getElem h]; rfl

end Go.Proofs.YtfodkkdggajjaaaGreatDoor

/-
  The document's Text of layer 8, by its contract.
-/
namespace Go.Proofs.YtfodkkdggajjaaaGreatDoor
open Go.RowKit

/-- What is left of a text from a piece on, without a pair of colons. -/
def restA (l : List Nat) (i : Nat) : List UInt8 := (if 0 < i ∧ i < l.length then [58] else []) ++ join8 (l.drop i)
theorem restA_step {l : List Nat} {i : Nat} (h : i < l.length) : restA l i = (if 0 < i then [58] else []) ++ hex8 (l.getD i 0) ++ restA l (i + 1) := by
  have hg : l.getD i 0 = l[i] := by rw [List.getD_eq_getElem?_getD, List.getElem?_eq_getElem h]; rfl
  unfold restA
  rw [List.drop_eq_getElem_cons h, hg]
  by_cases h1 : i + 1 < l.length
  · rw [List.drop_eq_getElem_cons h1, join8]
    by_cases h0 : 0 < i
    · rw [if_pos ⟨h0, h⟩, if_pos h0, if_pos ⟨by omega, h1⟩]; simp
    · rw [if_neg (by omega), if_neg h0, if_pos ⟨by omega, h1⟩]; simp
  · have hd : l.drop (i + 1) = [] := List.drop_eq_nil_of_le (by omega)
    rw [hd, join8]
    by_cases h0 : 0 < i
    · rw [if_pos ⟨h0, h⟩, if_pos h0, if_neg (by omega)]; simp [join8]
    · rw [if_neg (by omega), if_neg h0, if_neg (by omega)]; simp [join8]
theorem restA_zero (l : List Nat) : restA l 0 = join8 l := by unfold restA; simp
theorem restA_end {l : List Nat} {i : Nat} (h : l.length ≤ i) : restA l i = [] := by
  unfold restA
  rw [if_neg (by omega), List.drop_eq_nil_of_le h]; rfl
/-- With a pair of colons for n noughts at b. -/
def restB (l : List Nat) (b n i : Nat) : List UInt8 :=
  if i ≤ b then restA (l.take b) i ++ 58 :: 58 :: join8 (l.drop (b + n)) else restA (l.drop (b + n)) (i - (b + n))
theorem restB_le {l : List Nat} {b n i : Nat} (h : i ≤ b) : restB l b n i = restA (l.take b) i ++ 58 :: 58 :: join8 (l.drop (b + n)) := by unfold restB; rw [if_pos h]
theorem restB_gt {l : List Nat} {b n i : Nat} (h : ¬ i ≤ b) : restB l b n i = restA (l.drop (b + n)) (i - (b + n)) := by unfold restB; rw [if_neg h]
theorem text8_A {l : List Nat} {b n : Nat} (hb : cutAt l = b) (hn : run8 (l.drop b) = n) (h : n < 2) : text8 l = restA l 0 := by
  unfold text8
  rw [hb, hn, if_pos h, restA_zero]
theorem text8_B {l : List Nat} {b n : Nat} (hb : cutAt l = b) (hn : run8 (l.drop b) = n) (h : ¬ n < 2) : text8 l = restB l b n 0 := by
  unfold text8 restB
  rw [hb, hn, if_neg h, if_pos (by omega), restA_zero]
theorem restB_ahead {l : List Nat} {b n i : Nat} (hb : b ≤ l.length) (h : i < b) : restB l b n i = (if 0 < i then [58] else []) ++ hex8 (l.getD i 0) ++ restB l b n (i + 1) := by
  have hl : (l.take b).length = b := by rw [List.length_take]; omega
  have hg : (l.take b).getD i 0 = l.getD i 0 := by
    rw [List.getD_eq_getElem?_getD, List.getD_eq_getElem?_getD, List.getElem?_take, if_pos h]
  rw [restB_le (i := i) (by omega), restB_le (i := i + 1) (by omega), restA_step (by omega), hg]
  simp
theorem restB_here {l : List Nat} {b n : Nat} (hb : b ≤ l.length) (hn : 2 ≤ n) : restB l b n b = [58, 58] ++ restB l b n (b + n) := by
  have hl : (l.take b).length = b := by rw [List.length_take]; omega
  unfold restB
  rw [if_pos (Nat.le_refl _), if_neg (by omega), restA_end (by omega), Nat.sub_self, restA_zero]
  rfl
theorem restB_behind {l : List Nat} {b n i : Nat} (hn : 2 ≤ n) (h : b + n ≤ i) (hi : i < l.length) : restB l b n i = (if b + n < i then [58] else []) ++ hex8 (l.getD i 0) ++ restB l b n (i + 1) := by
  have hl : (l.drop (b + n)).length = l.length - (b + n) := List.length_drop
  have hg : (l.drop (b + n)).getD (i - (b + n)) 0 = l.getD i 0 := by
    rw [List.getD_eq_getElem?_getD, List.getD_eq_getElem?_getD, List.getElem?_drop, show b + n + (i - (b + n)) = i by omega]
  rw [restB_gt (i := i) (by omega), restB_gt (i := i + 1) (by omega), restA_step (by omega), hg, show i + 1 - (b + n) = i - (b + n) + 1 by omega]
  by_cases h2 : b + n < i
  · rw [if_pos (by omega), if_pos h2]
  · rw [if_neg (by omega), if_neg h2]
theorem restB_end {l : List Nat} {b n i : Nat} (hi : l.length ≤ i) (hb : b < i) : restB l b n i = [] := by
  unfold restB
  rw [if_neg (by omega), restA_end (by rw [List.length_drop]; omega)]
end Go.Proofs.YtfodkkdggajjaaaGreatDoor

/-
  The document's Text of layer 8: the walk.
-/
namespace Go.Proofs.YtfodkkdggajjaaaGreatDoor
open Go.RowKit

theorem bnx8 {W a b : World} (h : Below W.heap.size W a) (k : Below a.heap.size a b) : Below W.heap.size W b := h.trans (k.mono h.size)
theorem bnxd8 {W a b : World} (h : Below W.heap.size W a) (k : Below a.drew.heap.size a.drew b) : Below W.heap.size W b := bnx8 h (below_drew8 k)
theorem best8_step (l : List Nat) (k i b : Nat) : best8 l (k + 1) i b = best8 l k (i + 1) (if run8 (l.drop b) < run8 (l.drop i) then i else b) := rfl

end Go.Proofs.YtfodkkdggajjaaaGreatDoor

/-
  What the program of layer 8 asks of the library's variables, and the library's functions that it calls, by their contracts: strings.Cut, strings.Contains, strconv.ParseUint.
-/
namespace Go.Proofs.YtfodkkdggajjaaaGreatDoor
open Go.RowKit Go.Shelf

/-- The library's variables: a length, two errors, a table. -/
structure V8 (w : World) : Prop where
  mx : ∃ m, w.cell? ⟨1, 0, none⟩ = some (.int .i64 m)
  es : ∃ ev, w.cell? ⟨3, 0, none⟩ = some ev ∧ (ev = .nilIface ∨ ∃ te pe, ev = .iface te pe)
  er : ∃ ev, w.cell? ⟨4, 0, none⟩ = some ev ∧ (ev = .nilIface ∨ ∃ te pe, ev = .iface te pe)
  tz : TabAt 6 Lib.deBruijn64tab w
theorem cell_lt8 {w : World} {a : Addr} {v : Value} (h : w.cell? a = some v) : a.block < w.heap.size := by
  by_cases hb : a.block < w.heap.size
  · exact hb
  · rw [World.cell?, Array.getElem?_eq_none (by omega)] at h
    cases h
theorem V8.belowB {w w' : World} {B : Nat} (h : V8 w) (hB : B = w.heap.size) (hb : Below B w w') : V8 w' := by
  subst hB
  obtain ⟨⟨m, h1⟩, ⟨e1, h2, h2'⟩, ⟨e2, h3, h3'⟩, h4⟩ := h
  refine ⟨⟨m, ?_⟩, ⟨e1, ?_, h2'⟩, ⟨e2, ?_, h3'⟩, fun j hj => ?_⟩
  · exact (hb.cell (cell_lt8 h1)).trans h1
  · exact (hb.cell (cell_lt8 h2)).trans h2
  · exact (hb.cell (cell_lt8 h3)).trans h3
  · exact (hb.cell (cell_lt8 (h4 j hj))).trans (h4 j hj)
theorem V8.below {w w' : World} (h : V8 w) (hb : Below w.heap.size w w') : V8 w' := h.belowB rfl hb

theorem bytes8 {a b : ByteArray} (h : a.data.toList = b.data.toList) : a = b := by
  cases a; cases b
  exact congrArg ByteArray.mk (Array.toList_inj.1 h)
theorem cutAny8 (s sep : ByteArray) (a b : List UInt8) (t : Bool) (h : Lib.cut s.data.toList sep.data.toList = (a, b, t)) (w : World) (hv : V8 w) (hs : s.size ≤ 10000) :
    Calls Tryz.prog 10 #[.string s, .string sep] w fun e w' => e = .returned (.tuple #[.string (btx a), .string (btx b), .bool t]) ∧ Below w.heap.size w w' := by
  obtain ⟨m, hm⟩ := hv.mx
  refine (Any.strings_Cut lays145 s sep m w (by omega) hm).mono ?_
  rintro e w' ⟨rfl, n, rfl⟩
  rw [h]
  exact ⟨rfl, ⟨rfl, rfl, rfl, Nat.le_refl _, fun _ _ => rfl⟩⟩
theorem dotAny8 (s : ByteArray) (t : Bool) (h : decide (46 ∈ s.data.toList) = t) (w : World) :
    Calls Tryz.prog 22 #[.string s, .string ⟨#[46]⟩] w fun e w' => e = .returned (.bool t) ∧ w = w' := by
  refine (Any.strings_Contains_one lays144 s 46 w).mono ?_
  rintro e w' ⟨rfl, rfl⟩
  refine ⟨?_, rfl⟩
  have : decide (0 ≤ Lib.indexByte s.data.toList 46) = t := by
    rw [← h]
    rcases ib_facts s.data.toList 46 with ⟨h1, h2⟩ | ⟨i, h1, h2, _, h4⟩
    · rw [h1]
      have : ¬ (46 ∈ s.data.toList) := fun hm => h2 46 hm rfl
      rw [decide_eq_false this]; rfl
    · rw [h1]
      have : 46 ∈ s.data.toList := by
        have : 46 ∈ s.data.toList.drop i := by rw [h4]; exact List.mem_cons_self ..
        exact List.mem_of_mem_drop this
      rw [decide_eq_true this, decide_eq_true (by omega)]
  rw [this]
/-- A text up to its first colon. -/
theorem cut_colon (t : List UInt8) : (Lib.cut t [58] = (t, [], false) ∧ ∀ b ∈ t, b ≠ 58) ∨ ∃ p r, Lib.cut t [58] = (p, r, true) ∧ t = p ++ 58 :: r ∧ ∀ b ∈ p, b ≠ 58 := by
  unfold Lib.cut
  rw [Lib.index_one]
  rcases ib_facts t 58 with ⟨h1, h2⟩ | ⟨i, h1, h2, h3, h4⟩
  · left
    rw [h1, if_neg (by decide)]
    exact ⟨rfl, h2⟩
  · right
    rw [h1, if_pos (by omega)]
    refine ⟨t.take i, t.drop (i + 1), rfl, ?_, h3⟩
    rw [← h4, List.take_append_drop]

/-! Numbers by base 16. -/
set_option maxRecDepth 100000 in
theorem pu16_empty (w : World) : Calls Tryz.prog 53 #[.string ⟨#[]⟩, .int .i64 16, .int .i64 16] w fun e w' => e = .returned (hexEnd none) ∧ w = w' := by
  go_enter Tryz.func53, Tryz.ntmps53
  go_wp2
  go_ret2
  exact ⟨rfl, rfl⟩
theorem pu16_all (t : ByteArray) (o : Option Nat) (h : value8 t.data.toList = o) (h4 : t.size ≤ 4) (w : World) :
    Calls Tryz.prog 53 #[.string t, .int .i64 16, .int .i64 16] w fun e w' => e = .returned (hexEnd o) ∧ Below w.heap.size w w' := by
  have hl : t.data.toList.length = t.size := by simp
  by_cases h0 : t.size = 0
  · have hn : t.data.toList = [] := List.eq_nil_of_length_eq_zero (by omega)
    have ht : t = ⟨#[]⟩ := bytes8 (by rw [hn])
    rw [hn] at h
    subst ht
    have : o = none := h.symm
    subst this
    refine (pu16_empty w).mono ?_
    rintro e w' ⟨rfl, rfl⟩
    exact ⟨rfl, Below.refl _ _⟩
  · have : digs 16 0 t.data.toList = o := by
      rw [← h]
      unfold value8
      rw [if_neg]
      rintro (e | e)
      · rw [e] at hl; simp at hl; omega
      · omega
    rw [← this]
    exact pu16_any t h0 h4 w
set_option maxHeartbeats 1000000 in
theorem pub16_some {s : ByteArray} {n : Nat} (h : value8 s.data.toList = some n) (h4 : s.size ≤ 4) (w : World) :
    Calls Tryz.prog 37 #[.string s, .int .i64 16, .int .i64 16] w fun e w' => e = .returned (.tuple #[.int .u64 (n : Int), .nilIface]) ∧ Below w.heap.size w w' := by
  have HC := Lib.hid (pu16_all s _ h h4)
  clear h
  go_enter Tryz.func37, Tryz.ntmps37
  go_wp2_with (go_at_call 53; refine (HC.out _).mono ?_; unfold hexEnd; rintro e w1 ⟨rfl, hb⟩; have HB := Lib.hid hb; clear hb)
  go_ret2
  exact ⟨rfl, HB.out⟩
set_option maxHeartbeats 1000000 in
theorem pub16_none {s : ByteArray} (h : value8 s.data.toList = none) (h4 : s.size ≤ 4) (w : World) (hv : V8 w) :
    Calls Tryz.prog 37 #[.string s, .int .i64 16, .int .i64 16] w fun e w' => ∃ t p, e = .returned (.tuple #[.int .u64 0, .iface t p]) ∧ Below w.heap.size w w' := by
  have HC := Lib.hid (pu16_all s _ h h4)
  have HV := Lib.hid hv
  clear h hv
  go_enter Tryz.func37, Tryz.ntmps37
  go_wp2_with (first
    | (go_at_call 53; refine (HC.out _).mono ?_; unfold hexEnd; rintro e w1 ⟨rfl, hb⟩; have HB := Lib.hid hb; obtain ⟨ev, hc, hev⟩ := (HV.out.below hb).es; have HE := Lib.hid (And.intro hc hev); clear hb hc hev)
    | (go_at_call 54; (refine (AnyPu.strconv_toError_syntax (ρ := lays14_ren) { lays14 with } _ s 16 16 ev _ (by omega) HE.out.1 HE.out.2).mono ?_; rintro e w2 ⟨N, rfl, hN, hc2, hb2⟩; have HB2 := Lib.hid (bnx8 HB.out hb2); clear hN hc2 hb2)))
  go_ret2
  exact ⟨_, _, rfl, HB2.out⟩

/-! Numbers by base 10. -/
theorem pub10_some {s : ByteArray} {n : Nat} (h : endO (Lib.parseUintB 8 s.data.toList) = some n) (hs : s.size ≤ 10000) (w : World) :
    Calls Tryz.prog 37 #[.string s, .int .i64 10, .int .i64 8] w fun e w' => e = .returned (.tuple #[.int .u64 (n : Int), .nilIface]) ∧ Below w.heap.size w w' := by
  rcases hp : Lib.parseUintB 8 s.data.toList with u | _ | _
  · rw [hp] at h
    cases h
    refine (Any.strconv_ParseUint_10_at8_ok lays14 s (by omega) n hp w).mono ?_
    rintro e w' ⟨rfl, hw⟩
    refine ⟨rfl, ?_⟩
    rcases hw with rfl | rfl
    · exact Below.refl _ _
    · exact Lib.bytesWorld_below _ _ _
  · rw [hp] at h; cases h
  · rw [hp] at h; cases h
theorem pub10_none {s : ByteArray} (h : endO (Lib.parseUintB 8 s.data.toList) = none) (hs : s.size ≤ 10000) (w : World) (hv : V8 w) :
    Calls Tryz.prog 37 #[.string s, .int .i64 10, .int .i64 8] w fun e w' => ∃ (v : Nat) (t : TypeId) (p : Value), e = .returned (.tuple #[.int .u64 (v : Int), .iface t p]) ∧ v ≤ 255 ∧ Below w.heap.size w w' := by
  rcases hp : Lib.parseUintB 8 s.data.toList with u | _ | _
  · rw [hp] at h; cases h
  · obtain ⟨ev, hc, hev⟩ := hv.es
    refine (Any.strconv_ParseUint_10_at8_syntax lays14 s (by omega) hp ev w hc hev).mono ?_
    rintro e w' ⟨N, rfl, _, _, hb⟩
    exact ⟨0, _, _, rfl, by omega, hb⟩
  · obtain ⟨ev, hc, hev⟩ := hv.er
    refine (Any.strconv_ParseUint_10_at8_range lays14 s (by omega) hp ev w hc hev).mono ?_
    rintro e w' ⟨N, rfl, _, _, hb⟩
    exact ⟨255, _, _, rfl, by omega, hb⟩

/-! The program's piece and number. -/
set_option maxHeartbeats 1000000 in
theorem piece_some {s : ByteArray} {n : Nat} (h : value8 s.data.toList = some n) (w : World) :
    Calls Tryz.prog 24 #[.string s] w fun e w' => e = .returned (.tuple #[.int .u16 (n : Int), .bool true]) ∧ Below w.heap.size w w' := by
  have hl : s.data.toList.length = s.size := by simp
  have h4 : s.size ≤ 4 := by
    unfold value8 at h
    split at h
    · cases h
    · rename_i hh
      by_cases hlt : 4 < s.data.toList.length
      · exact absurd (.inr hlt) hh
      · omega
  have hn := value8_lt h
  have HC := Lib.hid (pub16_some h h4)
  clear h hl
  go_enter Tryz.func24, Tryz.ntmps24
  go_wp2_with (go_at_call 37; refine (HC.out _).mono ?_; rintro e w1 ⟨rfl, hb⟩; have HB := Lib.hid hb; clear hb)
  go_region
  go_wp2
  go_ret2
  exact ⟨rfl, HB.out.drew⟩
set_option maxHeartbeats 1000000 in
theorem piece_none {s : ByteArray} (h : value8 s.data.toList = none) (w : World) (hv : V8 w) :
    Calls Tryz.prog 24 #[.string s] w fun e w' => e = .returned (.tuple #[.int .u16 0, .bool false]) ∧ Below w.heap.size w w' := by
  by_cases h4 : s.size ≤ 4
  · have HC := Lib.hid (fun w hv => pub16_none h h4 w hv)
    have HV := Lib.hid hv
    clear h hv
    go_enter Tryz.func24, Tryz.ntmps24
    go_wp2_with (go_at_call 37; refine (HC.out _ HV.out).mono ?_; rintro e w1 ⟨t1, p1, rfl, hb⟩; have HB := Lib.hid hb; clear hb)
    go_region
    go_wp2
    go_ret2
    exact ⟨rfl, HB.out.drew⟩
  · go_enter Tryz.func24, Tryz.ntmps24
    go_wp2
    go_ret2
    exact ⟨rfl, Below.refl _ _⟩
end Go.Proofs.YtfodkkdggajjaaaGreatDoor

/-
  The small functions of package fail and of the document's answers, by their contracts.
-/
namespace Go.Proofs.YtfodkkdggajjaaaGreatDoor
open Go.RowKit

set_option maxHeartbeats 400000 in
theorem wrap_nil (s : ByteArray) (w : World) :
    Calls Tryz.prog 25 #[.string s, .nilIface] w fun e w' => e = .returned .nilIface ∧ w = w' := by
  go_enter Tryz.func25, Tryz.ntmps25
  go_wp2
  go_ret
  exact ⟨rfl, rfl⟩

set_option maxHeartbeats 400000 in
theorem wrap_held (s : ByteArray) (u : TypeId) (x : Value) (w : World) :
    Calls Tryz.prog 25 #[.string s, .iface u x] w fun e w' => e = .returned (.iface 86 (.pointer (some ⟨w.heap.size, 0, none⟩))) ∧ w.alloc (.cells #[.string s, .iface u x] 88) = w' := by
  go_enter Tryz.func25, Tryz.ntmps25
  go_wp2
  go_ret
  exact ⟨rfl, rfl⟩

set_option maxHeartbeats 400000 in
theorem unwrap_nil (w : World) :
    Calls Tryz.prog 121 #[.pointer none] w fun e w' => e = .returned .nilIface ∧ w = w' := by
  go_enter Tryz.func121, Tryz.ntmps121
  go_wp2
  go_ret
  exact ⟨rfl, rfl⟩

set_option maxHeartbeats 400000 in
theorem unwrap_at (b : Nat) (v : Value) (w : World) (h : w.cell? ⟨b, 1, none⟩ = some v) :
    Calls Tryz.prog 121 #[.pointer (some ⟨b, 0, none⟩)] w fun e w' => e = .returned v ∧ w = w' := by
  go_enter Tryz.func121, Tryz.ntmps121
  go_wp2
  go_ret
  exact ⟨rfl, rfl⟩

theorem Chain.held {w : World} {cs : List ByteArray} {n : Int} {v : Value} (h : Chain w cs (some n) v) : ∃ u x, v = .iface u x := by
  cases cs with
  | nil => exact ⟨_, _, h⟩
  | cons c cs => obtain ⟨b, v', e, _⟩ := h; exact ⟨_, _, e⟩

theorem Chain.lay {w : World} {cs : List ByteArray} {o : Option Int} {v : Value} (s : ByteArray) (h : Chain w cs o v) :
    Chain (w.alloc (.cells #[.string s, v] 88)) (s :: cs) o (.iface 86 (.pointer (some ⟨w.heap.size, 0, none⟩))) :=
  ⟨w.heap.size, v, rfl, by simp, by simp, by simp, h.below ((Below.refl _ _).alloc (Nat.le_refl _) _)⟩

def AllPost (w : World) (ss : List ByteArray) (n : Int) (e : Ending) (w' : World) : Prop :=
  ∃ u x, e = .returned (.iface u x) ∧ Chain w' ss.reverse (some n) (.iface u x) ∧ Below w.heap.size w w'

def AllRel (w : World) (ss : List ByteArray) (n : Int) (k : Nat) (v : Value) (w' : World) : Prop :=
  ∃ u x, v = .iface u x ∧ Chain w' (ss.take k).reverse (some n) (.iface u x) ∧ Below w.heap.size w w'

end Go.Proofs.YtfodkkdggajjaaaGreatDoor

/-
  errors.As by its contracts, at the two targets that package fail uses. Go's own text of errors.As and errors.as is walked.
-/
namespace Go.Proofs.YtfodkkdggajjaaaGreatDoor
open Go.RowKit Go.Extern.Stop Go.Stop Go.Extern


theorem valueOfE (t : Addr) (w : World) : (ReflectliteValue.unpack (.iface 65 (.pointer (some t)))).run Tryz.prog w
    = .ok (.agg #[.pointer (some ⟨9, 65, none⟩), .pointer (some ⟨w.heap.size, 0, none⟩), .int .u64 150]) (w.alloc (.cells #[.pointer (some t)] 65)) := by kernel_rfl
theorem typeE (a : Addr) (w : World) : (ReflectliteValue.methodAny (ReflectliteValue.valueError "reflectlite.Value.Type" 0) (fun t _ _ _ => ReflectliteType.toType t) #[.agg #[.pointer (some ⟨9, 65, none⟩), .pointer (some a), .int .u64 150]]).run Tryz.prog w
    = .ok (.iface 70 (.agg #[.pointer (some ⟨9, 65, none⟩)])) w := by kernel_rfl
theorem kindPE (w : World) : ((ReflectliteType.abiMethod fun t => (fun a : Nat => Value.int IntKind.u8 (a : Int)) <$> Rtype.kind t) #[.pointer (some ⟨9, 65, none⟩)]).run Tryz.prog w = .ok (.int .u8 22) w := by kernel_rfl
theorem kindEE (w : World) : ((ReflectliteType.abiMethod fun t => (fun a : Nat => Value.int IntKind.u8 (a : Int)) <$> Rtype.kind t) #[.pointer (some ⟨9, 31, none⟩)]).run Tryz.prog w = .ok (.int .u8 2) w := by kernel_rfl
theorem partsPE (a : Addr) (w : World) : (ReflectliteValue.parts (.agg #[.pointer (some ⟨9, 65, none⟩), .pointer (some a), .int .u64 150])).run Tryz.prog w = .ok (some (65, a, 150)) w := by kernel_rfl
theorem elemTE (w : World) : (ReflectliteType.method ReflectliteType.elem #[.agg #[.pointer (some ⟨9, 65, none⟩)]]).run Tryz.prog w = .ok (.iface 70 (.agg #[.pointer (some ⟨9, 31, none⟩)])) w := by kernel_rfl
theorem implementsE (w : World) : (ReflectliteType.relation "Implements" ReflectliteType.implements_ #[.agg #[.pointer (some ⟨9, 31, none⟩)], .iface 70 (.agg #[.pointer (some ⟨9, 26, none⟩)])]).run Tryz.prog w = .ok (.bool true) w := by kernel_rfl
theorem typeOfE (v : Value) (w : World) : (ReflectliteType.typeOf #[.iface 31 v]).run Tryz.prog w = .ok (.iface 70 (.agg #[.pointer (some ⟨9, 31, none⟩)])) w := by kernel_rfl
theorem elemOfE (w : World) : (Rtype.elem? 65).run Tryz.prog w = .ok (some 31) w := by kernel_rfl
theorem mkE (p : Addr) (w : World) : (ReflectliteValue.mk 31 p ReflectliteValue.flagAddr).run Tryz.prog w = .ok (.agg #[.pointer (some ⟨9, 31, none⟩), .pointer (some p), .int .u64 386]) w := by kernel_rfl
theorem partsAE (a : Addr) (w : World) : (ReflectliteValue.parts (.agg #[.pointer (some ⟨9, 31, none⟩), .pointer (some a), .int .u64 386])).run Tryz.prog w = .ok (some (31, a, 386)) w := by kernel_rfl
theorem partsVE (a : Addr) (w : World) : (ReflectliteValue.parts (.agg #[.pointer (some ⟨9, 31, none⟩), .pointer (some a), .int .u64 130])).run Tryz.prog w = .ok (some (31, a, 130)) w := by kernel_rfl
theorem directE (w : World) : (Rtype.directlyAssignable 31 31).run Tryz.prog w = .ok true w := by kernel_rfl


theorem kindEF (w : World) : ((ReflectliteType.abiMethod fun t => (fun a : Nat => Value.int IntKind.u8 (a : Int)) <$> Rtype.kind t) #[.pointer (some ⟨9, 86, none⟩)]).run Tryz.prog w = .ok (.int .u8 22) w := by kernel_rfl
theorem implementsF (w : World) : (ReflectliteType.relation "Implements" ReflectliteType.implements_ #[.agg #[.pointer (some ⟨9, 86, none⟩)], .iface 70 (.agg #[.pointer (some ⟨9, 26, none⟩)])]).run Tryz.prog w = .ok (.bool true) w := by kernel_rfl
theorem typeOfF (v : Value) (w : World) : (ReflectliteType.typeOf #[.iface 86 v]).run Tryz.prog w = .ok (.iface 70 (.agg #[.pointer (some ⟨9, 86, none⟩)])) w := by kernel_rfl
theorem mkF (p : Addr) (w : World) : (ReflectliteValue.mk 86 p ReflectliteValue.flagAddr).run Tryz.prog w = .ok (.agg #[.pointer (some ⟨9, 86, none⟩), .pointer (some p), .int .u64 406]) w := by kernel_rfl
theorem partsAF (a : Addr) (w : World) : (ReflectliteValue.parts (.agg #[.pointer (some ⟨9, 86, none⟩), .pointer (some a), .int .u64 406])).run Tryz.prog w = .ok (some (86, a, 406)) w := by kernel_rfl
theorem partsVF (a : Addr) (w : World) : (ReflectliteValue.parts (.agg #[.pointer (some ⟨9, 86, none⟩), .pointer (some a), .int .u64 150])).run Tryz.prog w = .ok (some (86, a, 150)) w := by kernel_rfl
theorem directF (w : World) : (Rtype.directlyAssignable 86 86).run Tryz.prog w = .ok true w := by kernel_rfl


theorem valueOfErrno (n : Int) (w : World) : (ReflectliteValue.unpack (.iface 31 (.int .i64 n))).run Tryz.prog w
    = .ok (.agg #[.pointer (some ⟨9, 31, none⟩), .pointer (some ⟨w.heap.size, 0, none⟩), .int .u64 130]) (w.alloc (.cells #[.int .i64 n] 31)) := by kernel_rfl
theorem valueOfFail (e : Addr) (w : World) : (ReflectliteValue.unpack (.iface 86 (.pointer (some e)))).run Tryz.prog w
    = .ok (.agg #[.pointer (some ⟨9, 86, none⟩), .pointer (some ⟨w.heap.size, 0, none⟩), .int .u64 150]) (w.alloc (.cells #[.pointer (some e)] 86)) := by kernel_rfl
theorem assignEE (w : World) : (ReflectliteType.relation "AssignableTo" ReflectliteType.assignableTo #[.agg #[.pointer (some ⟨9, 31, none⟩)], .iface 70 (.agg #[.pointer (some ⟨9, 31, none⟩)])]).run Tryz.prog w = .ok (.bool true) w := by kernel_rfl
theorem assignFF (w : World) : (ReflectliteType.relation "AssignableTo" ReflectliteType.assignableTo #[.agg #[.pointer (some ⟨9, 86, none⟩)], .iface 70 (.agg #[.pointer (some ⟨9, 86, none⟩)])]).run Tryz.prog w = .ok (.bool true) w := by kernel_rfl
theorem assignFE (w : World) : (ReflectliteType.relation "AssignableTo" ReflectliteType.assignableTo #[.agg #[.pointer (some ⟨9, 86, none⟩)], .iface 70 (.agg #[.pointer (some ⟨9, 31, none⟩)])]).run Tryz.prog w = .ok (.bool false) w := by kernel_rfl
theorem assignEF (w : World) : (ReflectliteType.relation "AssignableTo" ReflectliteType.assignableTo #[.agg #[.pointer (some ⟨9, 31, none⟩)], .iface 70 (.agg #[.pointer (some ⟨9, 86, none⟩)])]).run Tryz.prog w = .ok (.bool false) w := by kernel_rfl
theorem methodKind (h : Value) (w : World) : (Go.method 283 70 (.agg #[h]) "Kind").run Tryz.prog w = .ok (105, h) w := by kernel_rfl
theorem methodElem (h : Value) (w : World) : (Go.method 283 70 (.agg #[h]) "Elem").run Tryz.prog w = .ok (112, .agg #[h]) w := by kernel_rfl
theorem methodImplements (h : Value) (w : World) : (Go.method 283 70 (.agg #[h]) "Implements").run Tryz.prog w = .ok (113, .agg #[h]) w := by kernel_rfl
theorem methodAssignableTo (h : Value) (w : World) : (Go.method 283 70 (.agg #[h]) "AssignableTo").run Tryz.prog w = .ok (110, .agg #[h]) w := by kernel_rfl
theorem methodComparable (h : Value) (w : World) : (Go.method 283 70 (.agg #[h]) "Comparable").run Tryz.prog w = .ok (111, .agg #[h]) w := by kernel_rfl
theorem methodUnwrap (a : Addr) (w : World) : (Go.method 283 86 (.pointer (some a)) "Unwrap").run Tryz.prog w = .ok (121, .pointer (some a)) w := by kernel_rfl

theorem assertAsE (n : Int) (w : World) : (Instr.typeAssert (.iface 31 (.int .i64 n)) 26 114 true).run Tryz.prog w = .ok (.tuple #[.nilIface, .bool false]) w := run_typeAssert_lacksB Tryz.underlying114 (by kernel_rfl) (by kernel_rfl) _ _ _
theorem assertAsF (a : Addr) (w : World) : (Instr.typeAssert (.iface 86 (.pointer (some a))) 26 114 true).run Tryz.prog w = .ok (.tuple #[.nilIface, .bool false]) w := run_typeAssert_lacksB Tryz.underlying114 (by kernel_rfl) (by kernel_rfl) _ _ _
theorem assertIsE (n : Int) (w : World) : (Instr.typeAssert (.iface 31 (.int .i64 n)) 26 72 true).run Tryz.prog w = .ok (.tuple #[.nilIface, .bool false]) w := run_typeAssert_lacksB Tryz.underlying72 (by kernel_rfl) (by kernel_rfl) _ _ _
theorem assertIsF (a : Addr) (w : World) : (Instr.typeAssert (.iface 86 (.pointer (some a))) 26 72 true).run Tryz.prog w = .ok (.tuple #[.nilIface, .bool false]) w := run_typeAssert_lacksB Tryz.underlying72 (by kernel_rfl) (by kernel_rfl) _ _ _
theorem assertManyE (n : Int) (w : World) : (Instr.typeAssert (.iface 31 (.int .i64 n)) 26 77 true).run Tryz.prog w = .ok (.tuple #[.nilIface, .bool false]) w := run_typeAssert_lacksB Tryz.underlying77 (by kernel_rfl) (by kernel_rfl) _ _ _
theorem assertManyF (a : Addr) (w : World) : (Instr.typeAssert (.iface 86 (.pointer (some a))) 26 77 true).run Tryz.prog w = .ok (.tuple #[.nilIface, .bool false]) w := run_typeAssert_lacksB Tryz.underlying77 (by kernel_rfl) (by kernel_rfl) _ _ _
theorem assertOneE (n : Int) (w : World) : (Instr.typeAssert (.iface 31 (.int .i64 n)) 26 75 true).run Tryz.prog w = .ok (.tuple #[.nilIface, .bool false]) w := run_typeAssert_lacksB Tryz.underlying75 (by kernel_rfl) (by kernel_rfl) _ _ _
theorem assertOneF (a : Addr) (w : World) : (Instr.typeAssert (.iface 86 (.pointer (some a))) 26 75 true).run Tryz.prog w = .ok (.tuple #[.iface 86 (.pointer (some a)), .bool true]) w := by kernel_rfl
end Go.Proofs.YtfodkkdggajjaaaGreatDoor

/-
  errors.as and errors.As by their contracts, at the targets *Errno and **Fail.
-/
namespace Go.Proofs.YtfodkkdggajjaaaGreatDoor
open Go.RowKit Go.Extern.Stop Go.Stop Go.Extern

theorem rlm (z : Sem Value) (f : TypeId → Addr → Nat → Nat → Sem Value) (v : Value) :
    ReflectliteValue.method z f #[v] = (do match ← ReflectliteValue.parts v with | none => z | some (t, a, fl) => f t a fl (fl % 32)) := rfl
theorem rls (v x : Value) : ∃ s1 s2 s3 s4 s5 : String, ReflectliteValue.set #[v, x] = (do
    let (some (dst, a, fl), some (src, b, _)) := (← ReflectliteValue.parts v, ← ReflectliteValue.parts x)
      | unsupported (.noEntry s1)
    if fl / ReflectliteValue.flagAddr % 2 == 0 then unsupported (.noEntry s2)
    let val ← loadVar src b
    if ← Rtype.directlyAssignable dst src then storeVar dst a val
    else if ← Rtype.implements dst src then
      if (← Rtype.kind src) == 20 then
        match val with
        | .nilIface => unsupported (.noEntry s3)
        | _ => storeVar dst a val
      else storeVar dst a (.iface src val)
    else panicString (s4 ++ (← Rtype.spelt src) ++ s5 ++ (← Rtype.spelt dst))
    pure (.tuple #[])) := ⟨_, _, _, _, _, rfl⟩

theorem below_set {B : Nat} {w w' : World} (hb : Below B w w') (t : Addr) (v : Value) : Below B (w.setCell t v) (w'.setCell t v) := by
  refine ⟨hb.os, hb.tape, hb.output, by simpa [World.setCell] using hb.size, fun k hk => ?_⟩
  simp only [World.setCell, Array.getElem?_modify, hb.block k hk]


theorem isNilE (a p : Addr) (W : World) (ha : W.cell? a = some (.pointer (some p))) :
    (ReflectliteValue.method (ReflectliteValue.valueError "reflectlite.Value.IsNil" 0) ReflectliteValue.isNil #[.agg #[.pointer (some ⟨9, 65, none⟩), .pointer (some a), .int .u64 150]]).run Tryz.prog W = .ok (.bool false) W := by
  rw [rlm]
  simp only [Sem.run_bind, partsPE, Result.andThen]
  simp [ReflectliteValue.isNil, loadVar, isAgg, underlying, Tryz.underlying65, ha, Result.andThen]
theorem elemVE (a p : Addr) (W : World) (ha : W.cell? a = some (.pointer (some p))) :
    (ReflectliteValue.method (ReflectliteValue.valueError "reflectlite.Value.Elem" 0) ReflectliteValue.elem #[.agg #[.pointer (some ⟨9, 65, none⟩), .pointer (some a), .int .u64 150]]).run Tryz.prog W
      = .ok (.agg #[.pointer (some ⟨9, 31, none⟩), .pointer (some p), .int .u64 386]) W := by
  rw [rlm]
  simp only [Sem.run_bind, partsPE, Result.andThen]
  simp [ReflectliteValue.elem, loadVar, isAgg, underlying, Tryz.underlying65, ha, Result.andThen, elemOfE, mkE]
theorem setE (ta b : Addr) (n : Int) (old : Value) (W : World) (hb : W.cell? b = some (.int .i64 n)) (ht : W.cell? ta = some old) (hf : W.frozen? ta = false) :
    (ReflectliteValue.set #[.agg #[.pointer (some ⟨9, 31, none⟩), .pointer (some ta), .int .u64 386], .agg #[.pointer (some ⟨9, 31, none⟩), .pointer (some b), .int .u64 130]]).run Tryz.prog W
      = .ok (.tuple #[]) (W.setCell ta (.int .i64 n)) := by
  obtain ⟨s1, s2, s3, s4, s5, hrls⟩ := rls (.agg #[.pointer (some ⟨9, 31, none⟩), .pointer (some ta), .int .u64 386]) (.agg #[.pointer (some ⟨9, 31, none⟩), .pointer (some b), .int .u64 130])
  rw [hrls]
  simp only [Sem.run_bind, partsAE, partsVE, Result.andThen]
  simp [ReflectliteValue.flagAddr, loadVar, isAgg, underlying, Tryz.underlying31, hb, Result.andThen, directE, storeVar, Value.cells, storeCells, Addr.add]
  rw [run_store Tryz.prog W ta _ _ (by rfl)]
  simp [ht, hf]


theorem setF (ta b : Addr) (e : Addr) (old : Value) (W : World) (hb : W.cell? b = some (.pointer (some e))) (ht : W.cell? ta = some old) (hf : W.frozen? ta = false) :
    (ReflectliteValue.set #[.agg #[.pointer (some ⟨9, 86, none⟩), .pointer (some ta), .int .u64 406], .agg #[.pointer (some ⟨9, 86, none⟩), .pointer (some b), .int .u64 150]]).run Tryz.prog W
      = .ok (.tuple #[]) (W.setCell ta (.pointer (some e))) := by
  obtain ⟨s1, s2, s3, s4, s5, hrls⟩ := rls (.agg #[.pointer (some ⟨9, 86, none⟩), .pointer (some ta), .int .u64 406]) (.agg #[.pointer (some ⟨9, 86, none⟩), .pointer (some b), .int .u64 150])
  rw [hrls]
  simp only [Sem.run_bind, partsAF, partsVF, Result.andThen]
  simp [ReflectliteValue.flagAddr, loadVar, isAgg, underlying, Tryz.underlying86, hb, Result.andThen, directF, storeVar, Value.cells, storeCells, Addr.add]
  rw [run_store Tryz.prog W ta _ _ (by rfl)]
  simp [ht, hf]


/-- What errors.As tells of a chain for a number. -/
def AsPost (w : World) (t : Addr) (o : Option Int) (e : Ending) (w' : World) : Prop :=
  match o with
  | some n => e = .returned (.bool true) ∧ Below w.heap.size (w.setCell t (.int .i64 n)) w'
  | none => e = .returned (.bool false) ∧ Below w.heap.size w w'

def AsRel (w w1 : World) (o : Option Int) (k : Nat) (p : Value) (wr : World) : Prop :=
  wr = w1 ∧ p ≠ .nilIface ∧ ∃ cs, cs.length = k ∧ Chain w cs o p

set_option maxHeartbeats 4000000 in
set_option maxRecDepth 100000 in
theorem as1_errno (cs : List ByteArray) (o : Option Int) (u : TypeId) (x : Value) (t a : Addr) (old : Value) (w : World) (hc : Chain w cs o (.iface u x)) (ha : w.cell? a = some (.pointer (some t)))
    (ht0 : w.cell? t = some old) (hf0 : w.frozen? t = false) :
    Calls Tryz.prog 43 #[.iface u x, .iface 65 (.pointer (some t)), .agg #[.pointer (some ⟨9, 65, none⟩), .pointer (some a), .int .u64 150], .iface 70 (.agg #[.pointer (some ⟨9, 31, none⟩)])] w (AsPost w t o) := by
  have HC := Lib.hid hc
  clear hc
  have x25 := @run_callFunc_extern Tryz.prog 19 _ ReflectliteType.typeOf Tryz.func19 (by kernel_rfl) (by kernel_rfl) (by kernel_rfl) (by kernel_rfl)
  have x27 := @run_callFunc_extern Tryz.prog 40 _ (fun args => ReflectliteValue.unpack (args.getD 0 (.tuple #[]))) Tryz.func40 (by kernel_rfl) (by kernel_rfl) (by kernel_rfl) (by kernel_rfl)
  have x65 := @run_callFunc_extern Tryz.prog 110 _ (ReflectliteType.relation "AssignableTo" ReflectliteType.assignableTo) Tryz.func110 (by kernel_rfl) (by kernel_rfl) (by kernel_rfl) (by kernel_rfl)
  have x37 := @run_callFunc_extern Tryz.prog 55 _ (ReflectliteValue.method (ReflectliteValue.valueError "reflectlite.Value.Elem" 0) ReflectliteValue.elem) Tryz.func55 (by kernel_rfl) (by kernel_rfl) (by kernel_rfl) (by kernel_rfl)
  have x38 := @run_callFunc_extern Tryz.prog 56 _ ReflectliteValue.set Tryz.func56 (by kernel_rfl) (by kernel_rfl) (by kernel_rfl) (by kernel_rfl)
  have tOE := typeOfE
  have tOF := typeOfF
  have mA := methodAssignableTo
  have aEE := assignEE
  have aFE := assignFE
  have mU := methodUnwrap
  have asE := assertAsE
  have asF := assertAsF
  have o1E := assertOneE
  have o1F := assertOneF
  have omE := assertManyE
  have vE := valueOfErrno
  have hal : a.block < w.heap.size := by
    rcases Nat.lt_or_ge a.block w.heap.size with h | h
    · exact h
    · simp [World.cell?, Array.getElem?_eq_none h] at ha
  have htl : t.block < w.heap.size := by
    rcases Nat.lt_or_ge t.block w.heap.size with h | h
    · exact h
    · simp [World.cell?, Array.getElem?_eq_none h] at ht0
  have el := elemVE a t (w.alloc (.cells #[.pointer (some ⟨9, 65, none⟩), .pointer (some a), .int .u64 150] 93)) (by rw [World.cell?_alloc_lt _ _ a hal]; exact ha)
  go_enter Tryz.func43, Tryz.ntmps43
  go_wp2
  go_loopg [0] cs.length (fun k p wr => AsRel w (w.alloc (.cells #[.pointer (some ⟨9, 65, none⟩), .pointer (some a), .int .u64 150] 93)) o k p wr)
  case atStart => exact ⟨rfl, by simp, cs, rfl, HC.out⟩
  case round =>
    obtain ⟨rfl, hp, ds, hk, hch⟩ := hrel
    cases ds with
    | nil =>
      cases o with
      | none => exact absurd hch hp
      | some n =>
        obtain rfl : _ = Value.iface 31 (.int .i64 n) := hch
        clear hp hk
        have st := setE t ⟨w.heap.size + 1, 0, none⟩ n old ((w.alloc (.cells #[.pointer (some ⟨9, 65, none⟩), .pointer (some a), .int .u64 150] 93)).alloc (.cells #[.int .i64 n] 31))
          (by rw [World.cell?_alloc_at _ _ _ _ (by simp)]; rfl)
          (by rw [World.cell?_alloc_lt _ _ t (by simp; omega), World.cell?_alloc_lt _ _ t htl]; exact ht0)
          (by rw [World.frozen?_alloc_old _ _ t (by simp; omega), World.frozen?_alloc_old _ _ t (Nat.ne_of_lt htl)]; exact hf0)
        go_wp2
        go_ret
        refine ⟨rfl, ?_⟩
        first | exact below_set (((Below.refl _ _).alloc (Nat.le_refl _) _).alloc (by simp) _) t _ | exact ((Below.refl _ _).alloc (by simp [World.setCell]) _).alloc (by simp [World.setCell]) _
    | cons d ds =>
      obtain ⟨b, v', rfl, hlt, hc0, hc1, hrest⟩ := hch
      have HR := Lib.hid hrest
      have HK := Lib.hid hk
      have hq := (World.cell?_alloc_lt w (.cells #[.pointer (some ⟨9, 65, none⟩), .pointer (some a), .int .u64 150] 93) ⟨b, 1, none⟩ hlt).trans hc1
      clear hrest hk hp
      by_cases hv : v' = .nilIface
      · subst hv
        have ho : ds = [] ∧ o = none := by
          cases ds with
          | nil =>
            cases o with
            | none => exact ⟨rfl, rfl⟩
            | some n => exact absurd HR.out (by intro h; cases h)
          | cons e es => obtain ⟨_, _, h, _⟩ := HR.out; cases h
        obtain ⟨rfl, rfl⟩ := ho
        go_wp2_with (go_at_call 121; refine (unwrap_at b _ _ hq).mono ?_; rintro e w' ⟨rfl, rfl⟩)
        go_ret
        exact ⟨rfl, (Below.refl _ _).alloc (Nat.le_refl _) _⟩
      · obtain ⟨u2, x2, rfl⟩ : ∃ u2 x2, v' = .iface u2 x2 := by
          cases ds with
          | nil =>
            cases o with
            | none => exact absurd HR.out hv
            | some n => exact ⟨_, _, HR.out⟩
          | cons e es => obtain ⟨_, _, h, _⟩ := HR.out; exact ⟨_, _, h⟩
        clear hv
        go_wp2_with (go_at_call 121; refine (unwrap_at b _ _ hq).mono ?_; rintro e w' ⟨rfl, rfl⟩)
        go_roundg ds.length
        case measure => rw [← HK.out]; simp
        case rel => exact ⟨rfl, by simp, ds, rfl, HR.out⟩

/-- What errors.As tells of a chain for a Fail. -/
def AsPostF (w : World) (t : Addr) (x : Option Addr) (e : Ending) (w' : World) : Prop :=
  match x with
  | some p => e = .returned (.bool true) ∧ Below w.heap.size (w.setCell t (.pointer (some p))) w'
  | none => e = .returned (.bool false) ∧ Below w.heap.size w w'

theorem AsPost.of {w w2 : World} (hb : Below w.heap.size w w2) {t : Addr} {o : Option Int} {e : Ending} {w' : World} (h : AsPost w2 t o e w') : AsPost w t o e w' := by
  cases o with
  | none => exact ⟨h.1, hb.trans (h.2.mono hb.size)⟩
  | some n => exact ⟨h.1, (below_set hb t _).trans (h.2.mono hb.size)⟩
theorem AsPostF.of {w w2 : World} (hb : Below w.heap.size w w2) {t : Addr} {o : Option Addr} {e : Ending} {w' : World} (h : AsPostF w2 t o e w') : AsPostF w t o e w' := by
  cases o with
  | none => exact ⟨h.1, hb.trans (h.2.mono hb.size)⟩
  | some n => exact ⟨h.1, (below_set hb t _).trans (h.2.mono hb.size)⟩
theorem AsPost.ret {w : World} {t : Addr} {o : Option Int} {e : Ending} {w' : World} (h : AsPost w t o e w') : ∃ b, e = .returned (.bool b) := by
  cases o with
  | none => exact ⟨_, h.1⟩
  | some n => exact ⟨_, h.1⟩
theorem AsPostF.ret {w : World} {t : Addr} {o : Option Addr} {e : Ending} {w' : World} (h : AsPostF w t o e w') : ∃ b, e = .returned (.bool b) := by
  cases o with
  | none => exact ⟨_, h.1⟩
  | some n => exact ⟨_, h.1⟩
end Go.Proofs.YtfodkkdggajjaaaGreatDoor

/-
  errors.As by its contracts, at the targets *Errno and **Fail.
-/
namespace Go.Proofs.YtfodkkdggajjaaaGreatDoor
open Go.RowKit Go.Extern.Stop Go.Stop Go.Extern


set_option maxHeartbeats 4000000 in
set_option maxRecDepth 100000 in
theorem as_errno (cs : List ByteArray) (o : Option Int) (u : TypeId) (x : Value) (t : Addr) (old : Value) (w : World) (hc : Chain w cs o (.iface u x))
    (hg : w.cell? ⟨0, 0, none⟩ = some (.iface 70 (.agg #[.pointer (some ⟨9, 26, none⟩)]))) (ht0 : w.cell? t = some old) (hf0 : w.frozen? t = false) :
    Calls Tryz.prog 30 #[.iface u x, .iface 65 (.pointer (some t))] w (AsPost w t o) := by
  have HC := Lib.hid hc
  clear hc
  have x25 := @run_callFunc_extern Tryz.prog 19 _ ReflectliteType.typeOf Tryz.func19 (by kernel_rfl) (by kernel_rfl) (by kernel_rfl) (by kernel_rfl)
  have x27 := @run_callFunc_extern Tryz.prog 40 _ (fun args => ReflectliteValue.unpack (args.getD 0 (.tuple #[]))) Tryz.func40 (by kernel_rfl) (by kernel_rfl) (by kernel_rfl) (by kernel_rfl)
  have x65 := @run_callFunc_extern Tryz.prog 110 _ (ReflectliteType.relation "AssignableTo" ReflectliteType.assignableTo) Tryz.func110 (by kernel_rfl) (by kernel_rfl) (by kernel_rfl) (by kernel_rfl)
  have x37 := @run_callFunc_extern Tryz.prog 55 _ (ReflectliteValue.method (ReflectliteValue.valueError "reflectlite.Value.Elem" 0) ReflectliteValue.elem) Tryz.func55 (by kernel_rfl) (by kernel_rfl) (by kernel_rfl) (by kernel_rfl)
  have x38 := @run_callFunc_extern Tryz.prog 56 _ ReflectliteValue.set Tryz.func56 (by kernel_rfl) (by kernel_rfl) (by kernel_rfl) (by kernel_rfl)
  have x28 := @run_callFunc_extern Tryz.prog 41 _ (ReflectliteValue.methodAny (ReflectliteValue.valueError "reflectlite.Value.Type" 0) (fun t _ _ _ => ReflectliteType.toType t)) Tryz.func41 (by kernel_rfl) (by kernel_rfl) (by kernel_rfl) (by kernel_rfl)
  have x29 := @run_callFunc_extern Tryz.prog 42 _ (ReflectliteValue.method (ReflectliteValue.valueError "reflectlite.Value.IsNil" 0) ReflectliteValue.isNil) Tryz.func42 (by kernel_rfl) (by kernel_rfl) (by kernel_rfl) (by kernel_rfl)
  have x57 := @run_callFunc_extern Tryz.prog 105 _ (ReflectliteType.abiMethod fun t => do pure (.int .u8 (← Rtype.kind t))) Tryz.func105 (by kernel_rfl) (by kernel_rfl) (by kernel_rfl) (by kernel_rfl)
  have x67 := @run_callFunc_extern Tryz.prog 112 _ (ReflectliteType.method ReflectliteType.elem) Tryz.func112 (by kernel_rfl) (by kernel_rfl) (by kernel_rfl) (by kernel_rfl)
  have x68 := @run_callFunc_extern Tryz.prog 113 _ (ReflectliteType.relation "Implements" ReflectliteType.implements_) Tryz.func113 (by kernel_rfl) (by kernel_rfl) (by kernel_rfl) (by kernel_rfl)
  have f1 := valueOfE
  have f2 := typeE
  have f3 := kindPE
  have f4 := kindEE
  have f5 := elemTE
  have f6 := implementsE
  have mK := methodKind
  have mE := methodElem
  have mI := methodImplements
  have htl : t.block < w.heap.size := by
    rcases Nat.lt_or_ge t.block w.heap.size with h | h
    · exact h
    · simp [World.cell?, Array.getElem?_eq_none h] at ht0
  have hgl : 0 < w.heap.size := by
    rcases Nat.lt_or_ge 0 w.heap.size with h | h
    · exact h
    · simp [World.cell?, Array.getElem?_eq_none h] at hg
  have n8 := isNilE ⟨w.heap.size, 0, none⟩ t ((w.alloc (.cells #[.pointer (some t)] 65)).alloc (.cells #[.pointer (some ⟨9, 65, none⟩), .pointer (some ⟨w.heap.size, 0, none⟩), .int .u64 150] 93)) (by simp)
  have hg2 : ((w.alloc (.cells #[.pointer (some t)] 65)).alloc (.cells #[.pointer (some ⟨9, 65, none⟩), .pointer (some ⟨w.heap.size, 0, none⟩), .int .u64 150] 93)).cell? ⟨0, 0, none⟩ = some (.iface 70 (.agg #[.pointer (some ⟨9, 26, none⟩)])) := by
    rw [World.cell?_alloc_lt _ _ ⟨0, 0, none⟩ (Nat.lt_of_lt_of_le hgl (by simp)), World.cell?_alloc_lt _ _ ⟨0, 0, none⟩ hgl]; exact hg
  have hwb : Below w.heap.size w ((w.alloc (.cells #[.pointer (some t)] 65)).alloc (.cells #[.pointer (some ⟨9, 65, none⟩), .pointer (some ⟨w.heap.size, 0, none⟩), .int .u64 150] 93)) := ((Below.refl _ _).alloc (Nat.le_refl _) _).alloc (by simp) _
  have ht2 := (hwb.cell (p := t) htl).trans ht0
  have hf2 := (hwb.frozen (p := t) htl).trans hf0
  clear ht0 hf0 hg
  go_enter Tryz.func30, Tryz.ntmps30
  go_wp2_with (go_at_call 43; refine (as1_errno cs o u x t ⟨w.heap.size, 0, none⟩ old _ (HC.out.below hwb) (by simp) ht2 hf2).mono ?_)
  intro e w' hpost
  obtain ⟨b, rfl⟩ := hpost.ret
  have HP := Lib.hid (AsPost.of hwb hpost)
  clear hpost
  go_wp2
  go_ret
  exact HP.out


end Go.Proofs.YtfodkkdggajjaaaGreatDoor
/-
  The word of an error's number.
-/
namespace Go.Proofs.YtfodkkdggajjaaaGreatDoor
open Go.RowKit

/-- An error's word. -/
def word (n : Int) : ByteArray := ([⟨#[111, 107]⟩, ⟨#[97, 114, 103, 117, 109, 101, 110, 116]⟩, ⟨#[102, 111, 114, 109]⟩, ⟨#[104, 111, 115, 116]⟩, ⟨#[112, 111, 114, 116]⟩, ⟨#[98, 97, 115, 101]⟩, ⟨#[116, 111, 111, 32, 108, 111, 110, 103]⟩, ⟨#[115, 116, 97, 108, 101]⟩, ⟨#[102, 117, 108, 108]⟩, ⟨#[99, 108, 111, 115, 101, 100]⟩, ⟨#[110, 111, 110, 101]⟩] : List ByteArray).getD n.toNat ⟨#[]⟩
theorem word_size (n : Int) : (word n).size ≤ 8 := by
  unfold word
  rcases Nat.lt_or_ge n.toNat 11 with h | h
  · have : ∀ k, k < 11 → (([⟨#[111, 107]⟩, ⟨#[97, 114, 103, 117, 109, 101, 110, 116]⟩, ⟨#[102, 111, 114, 109]⟩, ⟨#[104, 111, 115, 116]⟩, ⟨#[112, 111, 114, 116]⟩, ⟨#[98, 97, 115, 101]⟩, ⟨#[116, 111, 111, 32, 108, 111, 110, 103]⟩, ⟨#[115, 116, 97, 108, 101]⟩, ⟨#[102, 117, 108, 108]⟩, ⟨#[99, 108, 111, 115, 101, 100]⟩, ⟨#[110, 111, 110, 101]⟩] : List ByteArray).getD k ⟨#[]⟩).size ≤ 8 := by decide
    exact this _ h
  · rw [List.getD_eq_getElem?_getD, List.getElem?_eq_none h]; decide

def Returns (v : Value) (w : World) (e : Ending) (w' : World) : Prop := e = .returned v ∧ Below w.heap.size w w'

end Go.Proofs.YtfodkkdggajjaaaGreatDoor

/-
  find of package fail, at both of its types, and Code.
-/
namespace Go.Proofs.YtfodkkdggajjaaaGreatDoor
open Go.RowKit

/-- The variable errors.errorType holds its handle. -/
def Ready (w : World) : Prop := w.cell? ⟨0, 0, none⟩ = some (.iface 70 (.agg #[.pointer (some ⟨9, 26, none⟩)]))
theorem Ready.lt {w : World} (h : Ready w) : 0 < w.heap.size := by
  rcases Nat.lt_or_ge 0 w.heap.size with h' | h'
  · exact h'
  · simp [Ready, World.cell?, Array.getElem?_eq_none h'] at h
theorem Ready.below {w w' : World} (h : Ready w) (hb : Below w.heap.size w w') : Ready w' := (hb.cell (p := ⟨0, 0, none⟩) h.lt).trans h


theorem find1_idleE (p q : Addr) (w : World) :
    CallsD Tryz.prog 29 #[.pointer (some p), .pointer (some q)] .returning w fun e u' w' => e = .returned (.tuple #[]) ∧ u' = .returning ∧ w = w' := by
  refine callsD_of_wpS Tryz.func29 rfl fun c₀ cs hu => ?_
  apply wpS_seq
  apply wpS_region
  simp [wpOpsS, go_sem, recoverD, hu, Tryz.ntmps29, Exit.thenS]
  refine wpS_cond (t := false) (by simp [Act.eval, Array.replicate]) ?_
  simp only [Bool.false_eq_true, if_false]
  refine wpS_of_wp (wp_skip ?_)
  cases c₀
  simp_all [bodyPostS, results, Tryz.results29]

/-- What find leaves: its two results, and nothing old turned. -/
def FindPostE (w : World) (v : Value) (b : Bool) (e : Ending) (w' : World) : Prop := e = .returned (.tuple #[v, .bool b]) ∧ Below w.heap.size w w'


/-- What find leaves: its two results, and nothing old turned. -/
def FindPostF (w : World) (v : Value) (b : Bool) (e : Ending) (w' : World) : Prop := e = .returned (.tuple #[v, .bool b]) ∧ Below w.heap.size w w'


set_option maxHeartbeats 2000000 in
set_option maxRecDepth 100000 in
theorem find_errno (cs : List ByteArray) (n : Int) (u : TypeId) (x : Value) (w : World) (hc : Chain w cs (some n) (.iface u x)) (hg : Ready w) :
    Calls Tryz.prog 16 #[.iface u x] w (FindPostE w (.int .i64 n) true) := by
  have hmf : ∀ (fn : Fn) (first cap : Array Value) (w : World), (Instr.makeFunc fn first cap).run Tryz.prog w = .ok (.func fn first cap) w := fun _ _ _ _ => rfl
  have HC := Lib.hid hc
  clear hc
  have hwb : Below w.heap.size w ((w.alloc (.cells #[.int .i64 0] 31)).alloc (.cells #[.bool false] 4)) := ((Below.refl _ _).alloc (Nat.le_refl _) _).alloc (by simp) _
  have hg2 : Ready ((w.alloc (.cells #[.int .i64 0] 31)).alloc (.cells #[.bool false] 4)) := hg.below hwb
  have hc0 : ((w.alloc (.cells #[.int .i64 0] 31)).alloc (.cells #[.bool false] 4)).cell? ⟨w.heap.size, 0, none⟩ = some (.int .i64 0) := by simp
  have hf0 : ((w.alloc (.cells #[.int .i64 0] 31)).alloc (.cells #[.bool false] 4)).frozen? ⟨w.heap.size, 0, none⟩ = false := by simp
  have HG := Lib.hid hg
  clear hg
  go_enter_defers Tryz.func16, Tryz.ntmps16
  go_wp2_with (go_at_call 30; refine (as_errno cs (some n) u x ⟨w.heap.size, 0, none⟩ _ _ (HC.out.below hwb) hg2 hc0 hf0).mono ?_)
  rintro e w1 ⟨rfl, hb⟩
  have hs0 : w1.cell? ⟨w.heap.size, 0, none⟩ = some (.int .i64 n) := (hb.cell (p := ⟨w.heap.size, 0, none⟩) (by simp; omega)).trans (World.cell?_setCell_same' _ _ _ (by rw [hc0]; rfl))
  have hs1 : w1.cell? ⟨w.heap.size + 1, 0, none⟩ = some (.bool false) := (hb.cell (p := ⟨w.heap.size + 1, 0, none⟩) (by simp)).trans ((World.cell?_setCell_other _ ⟨w.heap.size, 0, none⟩ ⟨w.heap.size + 1, 0, none⟩ _ (by simp)).trans (by simp))
  have hz0 : w1.frozen? ⟨w.heap.size, 0, none⟩ = false := (hb.frozen (p := ⟨w.heap.size, 0, none⟩) (by simp; omega)).trans ((World.frozen?_setCell _ _ _ _).trans hf0)
  have hz1 : w1.frozen? ⟨w.heap.size + 1, 0, none⟩ = false := (hb.frozen (p := ⟨w.heap.size + 1, 0, none⟩) (by simp)).trans ((World.frozen?_setCell _ _ _ _).trans (by simp))
  have hbw : Below w.heap.size w w1 := ((((Below.refl _ _).alloc (Nat.le_refl _) _).alloc (by simp) _).setCell (p := ⟨w.heap.size, 0, none⟩) (Nat.le_refl _) _).trans (hb.mono (by simp; omega))
  clear hb
  go_wp2
  go_region
  all_goals
    go_wp2
    refine leaves_cons (f := 29) (args := #[.pointer (some ⟨w.heap.size, 0, none⟩), .pointer (some ⟨w.heap.size + 1, 0, none⟩)]) (by simp) (by simp [go_sem]) ?_
    refine (find1_idleE ⟨w.heap.size, 0, none⟩ ⟨w.heap.size + 1, 0, none⟩ _).mono ?_
    rintro e u' w'' ⟨rfl, rfl, rfl⟩
    simp [Leaves, settle, results, Tryz.results16, go_sem, hs0, hs1]
    exact ⟨rfl, (((hbw.setCell (p := ⟨w.heap.size + 1, 0, none⟩) (Nat.le_succ _) _).setCell (p := ⟨w.heap.size, 0, none⟩) (Nat.le_refl _) _).setCell (p := ⟨w.heap.size + 1, 0, none⟩) (Nat.le_succ _) _).drew⟩


set_option maxHeartbeats 2000000 in
set_option maxRecDepth 100000 in
theorem find_errno_no (cs : List ByteArray) (u : TypeId) (x : Value) (w : World) (hc : Chain w cs none (.iface u x)) (hg : Ready w) :
    Calls Tryz.prog 16 #[.iface u x] w (FindPostE w (.int .i64 0) false) := by
  have hmf : ∀ (fn : Fn) (first cap : Array Value) (w : World), (Instr.makeFunc fn first cap).run Tryz.prog w = .ok (.func fn first cap) w := fun _ _ _ _ => rfl
  have HC := Lib.hid hc
  clear hc
  have hwb : Below w.heap.size w ((w.alloc (.cells #[.int .i64 0] 31)).alloc (.cells #[.bool false] 4)) := ((Below.refl _ _).alloc (Nat.le_refl _) _).alloc (by simp) _
  have hg2 : Ready ((w.alloc (.cells #[.int .i64 0] 31)).alloc (.cells #[.bool false] 4)) := hg.below hwb
  have hc0 : ((w.alloc (.cells #[.int .i64 0] 31)).alloc (.cells #[.bool false] 4)).cell? ⟨w.heap.size, 0, none⟩ = some (.int .i64 0) := by simp
  have hf0 : ((w.alloc (.cells #[.int .i64 0] 31)).alloc (.cells #[.bool false] 4)).frozen? ⟨w.heap.size, 0, none⟩ = false := by simp
  have HG := Lib.hid hg
  clear hg
  go_enter_defers Tryz.func16, Tryz.ntmps16
  go_wp2_with (go_at_call 30; refine (as_errno cs none u x ⟨w.heap.size, 0, none⟩ _ _ (HC.out.below hwb) hg2 hc0 hf0).mono ?_)
  rintro e w1 ⟨rfl, hb⟩
  have hs0 : w1.cell? ⟨w.heap.size, 0, none⟩ = some (.int .i64 0) := (hb.cell (p := ⟨w.heap.size, 0, none⟩) (by simp; omega)).trans hc0
  have hs1 : w1.cell? ⟨w.heap.size + 1, 0, none⟩ = some (.bool false) := (hb.cell (p := ⟨w.heap.size + 1, 0, none⟩) (by simp)).trans (by simp)
  have hz0 : w1.frozen? ⟨w.heap.size, 0, none⟩ = false := (hb.frozen (p := ⟨w.heap.size, 0, none⟩) (by simp; omega)).trans hf0
  have hz1 : w1.frozen? ⟨w.heap.size + 1, 0, none⟩ = false := (hb.frozen (p := ⟨w.heap.size + 1, 0, none⟩) (by simp)).trans (by simp)
  have hbw : Below w.heap.size w w1 := ((((Below.refl _ _).alloc (Nat.le_refl _) _).alloc (by simp) _)).trans (hb.mono (by simp; omega))
  clear hb
  go_wp2
  go_region
  all_goals
    go_wp2
    refine leaves_cons (f := 29) (args := #[.pointer (some ⟨w.heap.size, 0, none⟩), .pointer (some ⟨w.heap.size + 1, 0, none⟩)]) (by simp) (by simp [go_sem]) ?_
    refine (find1_idleE ⟨w.heap.size, 0, none⟩ ⟨w.heap.size + 1, 0, none⟩ _).mono ?_
    rintro e u' w'' ⟨rfl, rfl, rfl⟩
    simp [Leaves, settle, results, Tryz.results16, go_sem, hs0, hs1]
    exact ⟨rfl, (((hbw.setCell (p := ⟨w.heap.size + 1, 0, none⟩) (Nat.le_succ _) _).setCell (p := ⟨w.heap.size, 0, none⟩) (Nat.le_refl _) _).setCell (p := ⟨w.heap.size + 1, 0, none⟩) (Nat.le_succ _) _).drew⟩


set_option maxHeartbeats 400000 in
theorem code_nil (w : World) : Calls Tryz.prog 7 #[.nilIface] w fun e w' => e = .returned (.int .i64 0) ∧ w = w' := by
  go_enter Tryz.func7, Tryz.ntmps7
  go_wp2
  go_ret
  exact ⟨rfl, rfl⟩

set_option maxHeartbeats 400000 in
theorem code_some (cs : List ByteArray) (n : Int) (u : TypeId) (x : Value) (w : World) (hc : Chain w cs (some n) (.iface u x)) (hg : Ready w) :
    Calls Tryz.prog 7 #[.iface u x] w (Returns (.int .i64 n) w) := by
  have HC := Lib.hid hc
  have HG := Lib.hid hg
  clear hc hg
  go_enter Tryz.func7, Tryz.ntmps7
  go_wp2_with (go_at_call 16; refine (find_errno cs n u x _ HC.out HG.out).mono ?_; rintro e w1 ⟨rfl, hb⟩)
  go_ret
  exact ⟨rfl, hb⟩

set_option maxHeartbeats 400000 in
theorem code_none (cs : List ByteArray) (u : TypeId) (x : Value) (w : World) (hc : Chain w cs none (.iface u x)) (hg : Ready w) :
    Calls Tryz.prog 7 #[.iface u x] w (Returns (.int .i64 10) w) := by
  have HC := Lib.hid hc
  have HG := Lib.hid hg
  clear hc hg
  go_enter Tryz.func7, Tryz.ntmps7
  go_wp2_with (go_at_call 16; refine (find_errno_no cs u x _ HC.out HG.out).mono ?_; rintro e w1 ⟨rfl, hb⟩)
  go_ret
  exact ⟨rfl, hb⟩

end Go.Proofs.YtfodkkdggajjaaaGreatDoor
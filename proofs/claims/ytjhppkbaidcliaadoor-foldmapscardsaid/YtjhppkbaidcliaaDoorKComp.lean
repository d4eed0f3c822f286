/-
  The document's Compose and Fold of layer 5, by their contracts.
-/
import Derived.Test.YtjhppkbaidcliaaDoorKMade
import Derived.Deep.RegionHeld3
import Derived.Deep.AppendLies
namespace Go.Proofs.YtjhppkbaidcliaaDoor
open Go.RowKit

theorem grown_undrew5 {w w1 : World} {o : Option Nat} (h : w.drew.grownBy w1 o) : w.grownBy w1 o := ⟨h.os, h.tape, h.output, h.size, h.block⟩
theorem below_drew {w w1 : World} (h : Below w.drew.heap.size w.drew w1) : Below w.heap.size w w1 := (below_drewN (Below.refl _ w) 1).trans h
def CompPost (l : List Int) (w : World) (e : Ending) (w' : World) : Prop := ∃ v, e = .returned v ∧ Made w w' v l
theorem made_is {c m z : Int} (h : madeOf c m = z) (w : World) : Calls Tryd.prog 25 #[.int .i32 c, .int .i32 m] w fun e w' => e = .returned (.int .i32 z) ∧ Below w.heap.size w w' := h ▸ made_any c m w
theorem drop_two {l : List Int} {k : Nat} (h : k + 1 < l.length) : l.drop k = l[k] :: l[k + 1] :: l.drop (k + 2) := by
  rw [List.drop_eq_getElem_cons (by omega), List.drop_eq_getElem_cons h]

set_option maxHeartbeats 2000000 in
set_option maxRecDepth 100000 in
theorem compose_any (A : Option Addr) (l : List Int) (cap : Nat) (w : World) (hr : Runes w A l) (hl : l.length ≤ 2000) :
    Calls Tryd.prog 16 #[.slice A l.length cap] w (CompPost (comp l) w) := by
  obtain ⟨i0, hi, hz0, hz1, hz2⟩ := info_parts Tryd.infoR
  have HI := Lib.hid (And.intro hi (And.intro hz0 (And.intro hz1 hz2)))
  have HR := Lib.hid hr
  clear hi hz0 hz1 hz2 hr
  go_enter Tryd.func16, Tryd.ntmps16
  go_wp2
  go_loopw [3, 4] (fun v i wr => ∃ (k : Nat) (o : List Int), k ≤ l.length ∧ i = .int .i64 k ∧ Made w wr v o ∧ comp l = o ++ comp (l.drop k) ∧ o.length ≤ k) (fun _ i _ => l.length - (intOf i).toNat)
  case atStart => exact ⟨0, [], Nat.zero_le _, rfl, ⟨World.ownsRow_nil _ _ _ _, Below.refl _ _⟩, rfl, Nat.le_refl _⟩
  case round =>
    obtain ⟨k, o, hk, rfl, hm, hd, ho⟩ := hrel
    have HM := Lib.hid hm
    have HD := Lib.hid hd
    clear hd
    by_cases hlt : k < l.length
    · obtain ⟨b, off, rfl, hblt, hc⟩ := (HR.out.below hm.2) k l[k] (List.getElem?_eq_getElem hlt)
      have hz := hm.2.size
      clear hm
      by_cases hlt2 : k + 1 < l.length
      · have hm := HM.out
        obtain ⟨b', off', e', _, hc2⟩ := (HR.out.below hm.2) (k + 1) l[k + 1] (List.getElem?_eq_getElem hlt2)
        cases e'
        clear hm
        have HDr := Lib.hid (drop_two hlt2)
        have HDr2 : Hid (l.drop (k + 1) = l[k + 1] :: l.drop (k + 2)) := List.drop_eq_getElem_cons hlt2
        have HPc : Hid (∀ wx, Below w.heap.size w wx → wx.cell? ⟨b, off + k, none⟩ = some (.int .i32 l[k]) ∧ wx.cell? ⟨b, off + (k + 1), none⟩ = some (.int .i32 l[k + 1])) := by
          intro wx hwx
          obtain ⟨b1, o1, e1, _, g1⟩ := (HR.out.below hwx) k l[k] (List.getElem?_eq_getElem hlt)
          obtain ⟨b2, o2, e2, _, g2⟩ := (HR.out.below hwx) (k + 1) l[k + 1] (List.getElem?_eq_getElem hlt2)
          cases e1
          cases e2
          exact ⟨g1, g2⟩
        obtain ⟨x, hx⟩ : ∃ x, l[k] = x := ⟨_, rfl⟩
        obtain ⟨y, hy⟩ : ∃ y, l[k + 1] = y := ⟨_, rfl⟩
        rw [hx] at hc HDr HPc
        rw [hy] at hc2 HDr HDr2 HPc
        clear hx hy
        have hg : decide ((k : Int) + 1 < (l.length : Int)) = true := by simp; omega
        have hw1 : IntKind.i64.wrap ((k : Int) + 1) = (k : Int) + 1 := IntWalk.i64_in _ (by omega)
        have ht1 : ((k : Int) + 1).toNat = k + 1 := by omega
        have hin1 : (0 : Int) ≤ (k : Int) + 1 := by omega
        have hin2 : (k : Int) + 1 < (l.length : Int) := by omega
        have hin3 : (0 : Int) ≤ (k : Int) := by omega
        have hin4 : (k : Int) < (l.length : Int) := by omega
        by_cases hz0 : madeOf x y = 0
        · have HZ := Lib.hid hz0
          clear hz0
          go_wp2_with fail
          go_region_held3 (fun w' => w'.cell? ⟨b, off + k, none⟩ = some (.int .i32 x) ∧ w'.cell? ⟨b, off + (k + 1), none⟩ = some (.int .i32 y)) (first | exact ⟨hc, hc2⟩ | exact ⟨hc3, hc4⟩ | go_keep) (first
            | (go_at_call 25; refine (made_is HZ.out _).mono ?_; rintro e w1 ⟨rfl, hb⟩; have HB := Lib.hid (below_drew hb); have hc3 := (HB.out.cell (p := ⟨b, off + k, none⟩) hblt).trans hc; have hc4 := (HB.out.cell (p := ⟨b, off + (k + 1), none⟩) hblt).trans hc2; clear hb))
          have HM := Lib.hid (HM.out.carry HB.out)
          go_wp2_with (at_builtin
                       refine wpList_append_own _ rfl (.tmp 42) (.tmp 47) 23 rfl w.heap.size 21 i0 _ 1 4 Tryd.underlying23 HI.out.1 HI.out.2.1 HI.out.2.2.1 HI.out.2.2.2 rfl (by decide) _ _ _ rfl (HM.out.1.alloc _) ⟨w1.heap.size, 0, none⟩ 1 1 [.int .i32 x] rfl rfl (cell_one_new _ _ _) (by simp [Value.oneCell']) ?ha ?hb ?hc ?_
                       case ha => simp only [maxLen]; omega
                       case hb => omega
                       case hc => have := HM.out.2.size; simp; omega
                       intro v' w2 hown' hgrow _)
          go_roundw
          case rel => exact ⟨k + 1, o ++ [x], hlt, by go_num, HM.out.push hown' hgrow, by rw [HD.out, HDr.out, comp_keep HZ.out, List.append_assoc, HDr2.out]; rfl, by simp; omega⟩
          case measure => simp [intOf]; omega
        · obtain ⟨z, hz1⟩ : ∃ z, madeOf x y = z := ⟨_, rfl⟩
          have HN := Lib.hid hz0
          rw [hz1] at hz0
          have hzn : (z != 0) = true := bne_iff_ne.2 hz0
          have HZ := Lib.hid hz1
          clear hz0 hz1
          go_wp2_with fail
          go_region_held3 (fun w' => w'.cell? ⟨b, off + k, none⟩ = some (.int .i32 x) ∧ w'.cell? ⟨b, off + (k + 1), none⟩ = some (.int .i32 y)) (first | exact ⟨hc, hc2⟩ | exact ⟨hc3, hc4⟩ | go_keep) (first
            | (go_at_call 25; refine (made_is HZ.out _).mono ?_; rintro e w1 ⟨rfl, hb⟩; have HB := Lib.hid (below_drew hb); have hc3 := (HB.out.cell (p := ⟨b, off + k, none⟩) hblt).trans hc; have hc4 := (HB.out.cell (p := ⟨b, off + (k + 1), none⟩) hblt).trans hc2; clear hb))
          have HM := Lib.hid (HM.out.carry HB.out)
          have hblt1 : b < w1.heap.size := Nat.lt_of_lt_of_le hblt HB.out.size
          have hz := HM.out.2.size
          clear hc hc2
          go_wp2_with fail
          go_region_held3 (fun w' => w'.cell? ⟨b, off + k, none⟩ = some (.int .i32 x) ∧ w'.cell? ⟨b, off + (k + 1), none⟩ = some (.int .i32 y)) (first | exact ⟨hc3, hc4⟩ | exact ⟨hc5, hc6⟩ | exact ⟨hc7, hc8⟩ | go_keep) (first
            | (refine step_append_lies _ (by rfl) (.tmp 27) (.tmp 38) 23 (by rfl) w.heap.size 21 i0 (.int .i32 0) 1 4 Tryd.underlying23 HI.out.1 HI.out.2.1 HI.out.2.2.1 HI.out.2.2.2 rfl (by decide) _ _ _ (by rfl) (HM2.out.1.alloc (.cells #[.int .i32 z] 21)) ⟨w2.heap.size, 0, none⟩ 1 1 [.int .i32 z] (by rfl) rfl (cell_one_new w2 _ _) (by simp [Value.oneCell']) (by decide) (by simp only [maxLen]; omega) (by omega) (by have := HM2.out.2.size; simp; omega) (w2.heap.size + 1) (by simp) ?_
               intro g cap3 w3 hown hgrow hat hlt3
               have hpu := HM2.out.push hown hgrow
               have hc7 := ((HPc.out _ hpu.2)).1
               have hc8 := ((HPc.out _ hpu.2)).2)
            | (go_at_call 25; refine (made_is HZ.out _).mono ?_; rintro e w2 ⟨rfl, hb⟩; have HB2 := Lib.hid (below_drew hb); have HM2 := Lib.hid (HM.out.carry HB2.out); have hc5 := (HB2.out.cell (p := ⟨b, off + k, none⟩) hblt1).trans hc3; have hc6 := (HB2.out.cell (p := ⟨b, off + (k + 1), none⟩) hblt1).trans hc4; clear hb))
          all_goals
            go_wp2
            go_roundw
            case rel => exact ⟨k + 2, o ++ [z], by omega, by go_num, hpu, by rw [HD.out, HDr.out, comp_pair HN.out, HZ.out, List.append_assoc]; rfl, by simp; omega⟩
            case measure => simp [intOf]; omega
      · have HDr := Lib.hid (show l.drop k = [l[k]] by rw [List.drop_eq_getElem_cons hlt, List.drop_eq_nil_of_le (by omega)])
        have hnil : l.drop (k + 1) = [] := List.drop_eq_nil_of_le (by omega)
        have HNil := Lib.hid hnil
        clear hnil
        obtain ⟨x, hx⟩ : ∃ x, l[k] = x := ⟨_, rfl⟩
        rw [hx] at hc HDr
        clear hx
        have hg : decide ((k : Int) + 1 < (l.length : Int)) = false := by simp; omega
        have hw1 : IntKind.i64.wrap ((k : Int) + 1) = (k : Int) + 1 := IntWalk.i64_in _ (by omega)
        clear hlt2
        go_wp2_with fail
        go_quiet (fail)
        have hbw : Below wr.heap.size wr (wr.drewN nq) := below_drewN (Below.refl _ _) _
        have hc9 := (hbw.cell (p := ⟨b, off + k, none⟩) hblt).trans hc
        have HM := Lib.hid (HM.out.carry hbw)
        generalize wr.drewN nq = w1 at hbw hc9 HM ⊢
        clear hbw hc hg hw1
        go_wp2_with (at_builtin
                     refine wpList_append_own _ rfl (.tmp 42) (.tmp 47) 23 rfl w.heap.size 21 i0 _ 1 4 Tryd.underlying23 HI.out.1 HI.out.2.1 HI.out.2.2.1 HI.out.2.2.2 rfl (by decide) _ _ _ rfl (HM.out.1.alloc _) ⟨w1.heap.size, 0, none⟩ 1 1 [.int .i32 x] rfl rfl (cell_one_new _ _ _) (by simp [Value.oneCell']) ?ha ?hb ?hc ?_
                     case ha => simp only [maxLen]; omega
                     case hb => omega
                     case hc => have := HM.out.2.size; simp; omega
                     intro v' w2 hown' hgrow _)
        go_roundw
        case rel => exact ⟨k + 1, o ++ [x], hlt, by go_num, HM.out.push hown' hgrow, by rw [HD.out, HDr.out, HNil.out, List.append_assoc]; rfl, by simp; omega⟩
        case measure => simp [intOf]; omega
    · have HE : Hid (o = comp l) := by
        show o = comp l
        rw [HD.out, List.drop_eq_nil_of_le (by omega)]
        simp [comp]
      clear hm
      go_wp2
      go_ret
      exact ⟨_, rfl, HE.out ▸ HM.out⟩
end Go.Proofs.YtjhppkbaidcliaaDoor

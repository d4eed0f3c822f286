/-
  The program's Map, Compose and Fold do as the document says.
-/
import Derived.Test.YtjhppkbaidcliaaDoorJBox
import Derived.Test.YtjhppkbaidcliaaDoorKCon
import Derived.Test.YtjhppkbaidcliaaDoorFSmall
namespace Go.Proofs.YtjhppkbaidcliaaDoor
open Go.RowKit

theorem boxI_new (w : World) (g : List Int → List Int) (hg : g [] = []) (hv : Vars w) : BoxI w w.heap.size g [] (w.alloc (.cells #[.slice none 0 0] 23)) := by
  have hb := (Below.refl w.heap.size w).alloc (Nat.le_refl _) (.cells #[.slice none 0 0] 23)
  refine ⟨hv.below hb, hb, Nat.le_refl _, by simp, fun _ => heap_alloc_new w _, .slice none 0 0, heap_alloc_new w _, ?_⟩
  rw [hg]
  exact World.ownsRow_nil _ _ _ _
theorem RowN.reads {B : Nat} {w : World} {v : Value} {l : List Int} (h : RowN B w v l) : ∃ A c, v = .slice A l.length c ∧ Runes w A l ∧ (l.length ≤ c ∧ (A = none → c = 0)) := by
  have h' : w.ownsRow B 21 1 v l.length (l.map (Value.int .i32)) := h
  rcases h.2 with ⟨rfl, h0⟩ | ⟨g, cap, cur, rfl, hh⟩
  · obtain rfl := List.eq_nil_of_length_eq_zero h0
    exact ⟨none, 0, rfl, fun i s hs => by simp at hs, Nat.le_refl _, fun _ => rfl⟩
  · refine ⟨_, _, rfl, fun i s hs => ?_, hh.2.2.1, fun e => by cases e⟩
    have hi : i < l.length := (List.getElem?_eq_some_iff.1 hs).1
    have hc := h'.cellAt (g := g) i (by simpa using hi)
    refine ⟨g, 0, rfl, (Array.getElem?_eq_some_iff.1 hh.2.1).1, ?_⟩
    rw [Nat.zero_add, hc, List.getElem?_map, hs]; rfl

set_option maxHeartbeats 1000000 in
set_option maxRecDepth 100000 in
theorem map_bad_p (c : Int) (w : World) (hv : Vars w) (hr : R32 c) (hb : Barred c) : Calls Tryd.prog 9 #[.int .i32 c] w (MapBad w) := by
  have hmf : ∀ (fn : Fn) (first cap : Array Value) (w : World), (Instr.makeFunc fn first cap).run Tryd.prog w = .ok (.func fn first cap) w := fun _ _ _ _ => rfl
  have HT := Lib.hid (tell_map ⟨w.heap.size, 0, none⟩ (BoxI w w.heap.size id) (takes_map w hv w.heap.size) c [] _ (boxI_new w id rfl hv) (by simp) hr.1 hr.2)
  have HBd := Lib.hid hb
  clear hb hr hv
  go_enter Tryd.func9, Tryd.ntmps9
  go_wp2_with (go_at_call 18; (with_reducible refine HT.out.mono ?_)
               rintro e w1 (⟨_, rfl, hi⟩ | ⟨hn, _⟩)
               rotate_left
               · exact absurd HBd.out hn
               have hc := (spot_at (hi.nil rfl) 0 rfl).1
               have HI := Lib.hid hi
               clear hi)
  go_ret2
  exact ⟨rfl, HI.out.old⟩

set_option maxHeartbeats 1000000 in
set_option maxRecDepth 100000 in
theorem map_good_p (c : Int) (w : World) (hv : Vars w) (hr : R32 c) (hb : ¬ Barred c) : Calls Tryd.prog 9 #[.int .i32 c] w (MapOk (mapTo c) w) := by
  have hmf : ∀ (fn : Fn) (first cap : Array Value) (w : World), (Instr.makeFunc fn first cap).run Tryd.prog w = .ok (.func fn first cap) w := fun _ _ _ _ => rfl
  have HT := Lib.hid (tell_map ⟨w.heap.size, 0, none⟩ (BoxI w w.heap.size id) (takes_map w hv w.heap.size) c [] _ (boxI_new w id rfl hv) (by simp) hr.1 hr.2)
  have HBd := Lib.hid hb
  clear hb hr hv
  go_enter Tryd.func9, Tryd.ntmps9
  go_wp2_with (go_at_call 18; (with_reducible refine HT.out.mono ?_)
               rintro e w1 (⟨hn, _⟩ | ⟨_, rfl, hi⟩)
               · exact absurd hn HBd.out
               obtain ⟨v, hc, _, hr⟩ := hi.cell
               obtain ⟨A, c1, hvv, hru, _⟩ := hr.reads
               rw [List.nil_append] at hvv hru
               subst hvv
               have HI := Lib.hid (And.intro hi hru)
               clear hi hr hru)
  go_ret2
  exact ⟨_, _, rfl, HI.out.2, HI.out.1.old⟩

set_option maxHeartbeats 1000000 in
set_option maxRecDepth 100000 in
theorem comp_p (A : Option Addr) (l : List Int) (cap : Nat) (w : World) (hv : Vars w) (hr : Runes w A l) (hl : l.length ≤ 1000) :
    Calls Tryd.prog 15 #[.slice A l.length cap] w (RunesPost (comp l) w) := by
  have HV := Lib.hid hv
  have HR := Lib.hid hr
  clear hv hr
  go_enter Tryd.func15, Tryd.ntmps15
  go_wp2
  go_loopw [3, 8] (fun v i wr => ∃ k : Nat, k ≤ l.length ∧ i = .int .i64 k ∧ RowN w.heap.size wr v (comp (l.take k)) ∧ Below w.heap.size w wr) (fun _ i _ => l.length - (intOf i).toNat)
  case atStart => exact ⟨0, Nat.zero_le _, rfl, World.ownsRow_nil _ _ _ _, Below.refl _ _⟩
  case round =>
    obtain ⟨k, hk, rfl, hrow, hb⟩ := hrel
    obtain ⟨B, hB⟩ : ∃ B, w.heap.size = B := ⟨_, rfl⟩
    have hz := hb.size
    by_cases hlt : k < l.length
    · obtain ⟨b, off, rfl, hblt, hc⟩ := (HR.out.below hb) k l[k] (List.getElem?_eq_getElem hlt)
      have htk := List.take_succ_eq_append_getElem hlt
      obtain ⟨x, hx⟩ : ∃ x, l[k] = x := ⟨_, rfl⟩
      rw [hx] at hc htk
      have hle : (comp (l.take k)).length ≤ 3000 := Nat.le_trans (comp_length _ (l.take k) (Nat.le_refl _)) (by rw [List.length_take]; omega)
      have HA := Lib.hid (add_any w.heap.size u3 (comp (l.take k)) x wr (HV.out.below hb) hrow hz hle)
      have HTk := Lib.hid htk
      have HB := Lib.hid hb
      clear hb hrow htk hx hle
      go_wp2_with (go_at_call 22; (with_reducible refine HA.out.mono ?_); rintro e w1 ⟨v1, rfl, hr1, hb1⟩; have HP := Lib.hid (And.intro hr1 hb1); clear hr1 hb1)
      go_roundw
      case rel => exact ⟨k + 1, hlt, by go_num, by rw [HTk.out, ← comp_add]; exact HP.out.1, HB.out.trans HP.out.2⟩
      case measure => simp [intOf]; omega
    · rw [List.take_of_length_le (by omega)] at hrow
      obtain ⟨A1, c1, hvv, hru, hcc⟩ := hrow.reads
      subst hvv
      have HP := Lib.hid (And.intro hru (And.intro hcc hb))
      clear hru hcc hb hrow
      go_wp2
      go_ret
      exact ⟨_, _, rfl, HP.out.1, HP.out.2.1.1, HP.out.2.2⟩
end Go.Proofs.YtjhppkbaidcliaaDoor

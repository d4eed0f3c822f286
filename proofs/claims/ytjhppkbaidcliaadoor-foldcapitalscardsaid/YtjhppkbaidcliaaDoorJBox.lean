/-
  The closures of Map and of Fold: a slice in a box that grows.
-/
import Derived.Test.YtjhppkbaidcliaaDoorJTell
import Derived.Test.YtjhppkbaidcliaaDoorJAdd
namespace Go.Proofs.YtjhppkbaidcliaaDoor
open Go.RowKit

/-- A box in block pb, made since w0, holds a slice of the call's own, behind it, that reads as g of what was handed on. -/
structure BoxI (w0 : World) (pb : Nat) (g : List Int → List Int) (acc : List Int) (w : World) : Prop where
  vars : Vars w
  old : Below w0.heap.size w0 w
  ge : w0.heap.size ≤ pb
  lt : pb + 1 ≤ w.heap.size
  nil : acc = [] → w.heap[pb]? = some (.cells #[.slice none 0 0] 23 (0, 0))
  box : ∃ v, w.heap[pb]? = some (.cells #[v] 23 (0, 0)) ∧ RowN (pb + 1) w v (g acc)
theorem BoxI.carry {w0 : World} {pb : Nat} {g : List Int → List Int} {acc : List Int} {w w' : World} (h : BoxI w0 pb g acc w) (hb : Below w.heap.size w w') : BoxI w0 pb g acc w' := by
  obtain ⟨v, h1, h2⟩ := h.box
  exact ⟨h.vars.below hb, h.old.trans (hb.mono h.old.size), h.ge, Nat.le_trans h.lt hb.size, fun e => (hb.block pb h.lt).trans (h.nil e), v, (hb.block pb h.lt).trans h1, h2.below hb⟩
/-- Behind the store of a new slice into the box. -/
theorem BoxI.put {w0 : World} {pb : Nat} {g : List Int → List Int} {acc acc' : List Int} {w w' : World} {v' : Value} (h : BoxI w0 pb g acc w) (hv0 : Vars w0) (hb : Below (pb + 1) w w') (hr : RowN (pb + 1) w' v' (g acc')) (hne : acc' ≠ []) :
    BoxI w0 pb g acc' (w'.setCell ⟨pb, 0, none⟩ v') := by
  obtain ⟨v, h1, h2⟩ := h.box
  have hge := h.ge
  have hb0 : Below w0.heap.size w w' := hb.mono (by omega)
  have hb1 : Below w0.heap.size w (w'.setCell ⟨pb, 0, none⟩ v') := hb0.setCell (by simpa using hge) _
  have hp : w'.heap[pb]? = some (.cells #[v] 23 (0, 0)) := (hb.block pb (by omega)).trans h1
  refine ⟨h.vars.belowB hv0 hb1, h.old.trans hb1, hge, ?_, fun e => absurd e hne, v', ?_, ?_⟩
  · have := hb.size; have := h.lt; simp; omega
  · have := heap_setCell_same w' pb 0 #[v] 23 v' hp
    simpa using this
  · exact ownsRow_setCell_below hr (by simp) v'
theorem BoxI.cell {w0 : World} {pb : Nat} {g : List Int → List Int} {acc : List Int} {w : World} (h : BoxI w0 pb g acc w) : ∃ v, w.cell? ⟨pb, 0, none⟩ = some v ∧ w.frozen? ⟨pb, 0, none⟩ = false ∧ RowN (pb + 1) w v (g acc) := by
  obtain ⟨v, h1, h2⟩ := h.box
  obtain ⟨a, b⟩ := spot_at h1 0 rfl
  exact ⟨v, a, b, h2⟩

theorem RowN.shape {B : Nat} {w : World} {v : Value} {l : List Int} (h : RowN B w v l) : ∃ A n c, v = .slice A n c := by
  rcases h.2 with ⟨h, _⟩ | ⟨g, cap, cur, h, _⟩
  · exact ⟨_, _, _, h⟩
  · exact ⟨_, _, _, h⟩

set_option maxHeartbeats 1000000 in
set_option maxRecDepth 100000 in
theorem map1_any (w0 : World) (hv0 : Vars w0) (pb : Nat) (acc : List Int) (x : Int) (w : World) (h : BoxI w0 pb id acc w) (hl : acc.length ≤ 2990) :
    Calls Tryd.prog 19 #[.int .i32 x, .pointer (some ⟨pb, 0, none⟩)] w fun e w' => e = .returned (.tuple #[]) ∧ BoxI w0 pb id (acc ++ [x]) w' := by
  obtain ⟨v, hc, hf, hr⟩ := h.cell
  have hlt := h.lt
  have HI := Lib.hid h
  have HV := Lib.hid hv0
  have HR := Lib.hid hr
  clear h hv0 hr
  go_enter Tryd.func19, Tryd.ntmps19
  go_wp2_with (at_builtin
               refine append_from rfl (.tmp 3) (.tmp 5) rfl (pb + 1) v acc (some ⟨w.heap.size, 0, none⟩) 1 1 [x] rfl rfl (HR.out.below ((Below.refl _ _).alloc (Nat.le_refl _) _)) (runes_one w x) rfl (fun h => by cases h) (by simp; omega) (by simp; omega) ?_
               intro v' w' hr' hb'
               obtain ⟨A', n', c', hvv⟩ := hr'.shape
               subst hvv
               have hbb := ((Below.refl (pb + 1) w).alloc hlt (.cells #[.int .i32 x] 21)).trans hb'
               have hc' := (hbb.cell (p := ⟨pb, 0, none⟩) (Nat.lt_succ_self pb)).trans hc
               have hf' := (hbb.frozen (p := ⟨pb, 0, none⟩) (Nat.lt_succ_self pb)).trans hf
               have HP := Lib.hid (And.intro hr' hbb)
               clear hr' hb' hbb hc hf)
  go_end0
  exact ⟨rfl, HI.out.put HV.out HP.out.2 HP.out.1 (by simp)⟩
theorem comp_add (acc : List Int) (x : Int) : cadd (comp acc) x = comp (acc ++ [x]) := (comp_snoc x acc.length acc (Nat.le_refl _)).symm

set_option maxHeartbeats 1000000 in
set_option maxRecDepth 100000 in
theorem fold1_any (w0 : World) (hv0 : Vars w0) (pb : Nat) (acc : List Int) (x : Int) (w : World) (h : BoxI w0 pb comp acc w) (hl : acc.length ≤ 2990) :
    Calls Tryd.prog 21 #[.int .i32 x, .pointer (some ⟨pb, 0, none⟩)] w fun e w' => e = .returned (.tuple #[]) ∧ BoxI w0 pb comp (acc ++ [x]) w' := by
  obtain ⟨v, hc, hf, hr⟩ := h.cell
  have hlt := h.lt
  have hl2 : (comp acc).length ≤ 3000 := Nat.le_trans (comp_length acc.length acc (Nat.le_refl _)) (by omega)
  have HI := Lib.hid h
  have HV := Lib.hid hv0
  have HR := Lib.hid hr
  have HL := Lib.hid hl2
  clear h hv0 hr hl2
  go_enter Tryd.func21, Tryd.ntmps21
  go_wp2_with (go_at_call 22; refine (add_any (pb + 1) v (comp acc) x _ HI.out.vars HR.out hlt HL.out).mono ?_
               rintro e w' ⟨v', rfl, hr', hbb⟩
               obtain ⟨A', n', c', hvv⟩ := hr'.shape
               subst hvv
               have hc' := (hbb.cell (p := ⟨pb, 0, none⟩) (Nat.lt_succ_self pb)).trans hc
               have hf' := (hbb.frozen (p := ⟨pb, 0, none⟩) (Nat.lt_succ_self pb)).trans hf
               rw [comp_add] at hr'
               have HP := Lib.hid (And.intro hr' hbb)
               clear hr' hbb hc hf)
  go_end0
  exact ⟨rfl, HI.out.put HV.out HP.out.2 HP.out.1 (by simp)⟩
theorem takes_map (w0 : World) (hv0 : Vars w0) (pb : Nat) : Takes 19 ⟨pb, 0, none⟩ (BoxI w0 pb id) :=
  ⟨fun _ _ _ h hb => h.carry hb, fun _ _ h => h.vars, fun acc x w h hl => map1_any w0 hv0 pb acc x w h hl⟩
theorem takes_fold (w0 : World) (hv0 : Vars w0) (pb : Nat) : Takes 21 ⟨pb, 0, none⟩ (BoxI w0 pb comp) :=
  ⟨fun _ _ _ h hb => h.carry hb, fun _ _ h => h.vars, fun acc x w h hl => fold1_any w0 hv0 pb acc x w h hl⟩
end Go.Proofs.YtjhppkbaidcliaaDoor

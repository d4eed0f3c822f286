/-
  add: a code point behind a list that is composed.
-/
import Derived.Test.YtjhppkbaidcliaaDoorJPair
import Derived.Test.YtjhppkbaidcliaaDoorApp
namespace Go.Proofs.YtjhppkbaidcliaaDoor
open Go.RowKit

def AddPost (B : Nat) (l : List Int) (x : Int) (w : World) (e : Ending) (w' : World) : Prop := ∃ v, e = .returned v ∧ RowN B w' v (cadd l x) ∧ Below B w w'
theorem pair_is {a m z : Int} (h : madeOf a m = z) (w : World) (hv : Vars w) : Calls Tryd.prog 30 #[.int .i32 a, .int .i32 m] w fun e w' => e = .returned (.int .i32 z) ∧ Below w.heap.size w w' := h ▸ pair_any a m w hv
theorem cadd_keep {t : List Int} {a x : Int} (h : madeOf a x = 0) : cadd (t ++ [a]) x = (t ++ [a]) ++ [x] := by unfold cadd; simp [h]
theorem cadd_pair {t : List Int} {a x : Int} (h : madeOf a x ≠ 0) : cadd (t ++ [a]) x = t ++ [madeOf a x] := by unfold cadd; simp [h]

set_option maxHeartbeats 1000000 in
set_option maxRecDepth 100000 in
theorem add_none (B : Nat) (v : Value) (x : Int) (w : World) (hrow : RowN B w v []) (hB : B ≤ w.heap.size) :
    Calls Tryd.prog 22 #[v, .int .i32 x] w (AddPost B [] x w) := by
  obtain ⟨A, cap, rfl⟩ : ∃ A cap, v = .slice A 0 cap := by
    rcases hrow.2 with ⟨h, _⟩ | ⟨g, cap, cur, h, _⟩
    · exact ⟨_, _, h⟩
    · exact ⟨_, _, h⟩
  have HR := Lib.hid hrow
  clear hrow
  go_enter Tryd.func22, Tryd.ntmps22
  go_wp2_with (at_builtin
               refine append_from rfl (.tmp 25) (.tmp 27) rfl B _ [] (some ⟨w.heap.size, 0, none⟩) 1 1 [x] rfl rfl (HR.out.below ((Below.refl _ _).alloc (Nat.le_refl _) _)) (runes_one w x) rfl (fun h => by cases h) (by simp) (by simp; omega) ?_
               intro v' w' hr' hb'
               have HP := Lib.hid (And.intro hr' (((Below.refl B w).alloc hB _).trans hb'))
               clear hr' hb')
  go_ret
  exact ⟨_, rfl, HP.out.1, HP.out.2⟩

set_option maxHeartbeats 1000000 in
set_option maxRecDepth 100000 in
theorem add_some (B : Nat) (v : Value) (t : List Int) (a x : Int) (w : World) (hv : Vars w) (hrow : RowN B w v (t ++ [a])) (hB : B ≤ w.heap.size) (hl : t.length ≤ 3000) :
    Calls Tryd.prog 22 #[v, .int .i32 x] w (AddPost B (t ++ [a]) x w) := by
  obtain ⟨g, cap, rfl⟩ : ∃ g cap, v = .slice (some ⟨g, 0, none⟩) (t.length + 1) cap := by
    rcases hrow.2 with ⟨h, h0⟩ | ⟨g, cap, cur, h, _⟩
    · simp at h0
    · exact ⟨g, cap, by simpa using h⟩
  have hrow' : w.ownsRow B 21 1 (.slice (some ⟨g, 0, none⟩) (t.length + 1) cap) (t.length + 1) ((t ++ [a]).map (Value.int .i32)) := by
    have := hrow
    unfold RowN at this
    simpa using this
  have hc : w.cell? ⟨g, t.length, none⟩ = some (.int .i32 a) := by
    rw [hrow'.cellAt t.length (by omega)]
    simp
  have hg : g < w.heap.size ∧ B ≤ g := by
    have := hrow'.lt g rfl
    omega
  have HV := Lib.hid hv
  have HR := Lib.hid hrow'
  have HN0 := Lib.hid hrow
  clear hv hrow hrow'
  by_cases hz : madeOf a x = 0
  · have HZ := Lib.hid hz
    clear hz
    go_enter Tryd.func22, Tryd.ntmps22
    go_wp2_with (first
      | (go_at_call 30; refine (pair_is HZ.out _ HV.out).mono ?_; rintro e w1 ⟨rfl, hb⟩; have HB := Lib.hid hb; clear hb)
      | (at_builtin
         refine append_from rfl (.tmp 25) (.tmp 27) rfl B _ (t ++ [a]) (some ⟨w1.heap.size, 0, none⟩) 1 1 [x] rfl rfl ?h1 (runes_one w1 x) rfl (fun h => by cases h) ?h2 ?h3 ?_
         case h1 => exact HN0.out.below (HB.out.alloc HB.out.size (.cells #[.int .i32 x] 21))
         case h2 => simp; omega
         case h3 => have := HB.out.size; simp; omega
         intro v' w' hr' hb'
         have HP := Lib.hid (And.intro hr' (((HB.out.mono hB).alloc (Nat.le_trans hB HB.out.size) _).trans hb'))
         clear hr' hb'))
    go_ret
    exact ⟨_, rfl, by rw [cadd_keep HZ.out]; exact HP.out.1, HP.out.2⟩
  · obtain ⟨z, hz1⟩ : ∃ z, madeOf a x = z := ⟨_, rfl⟩
    have HN := Lib.hid hz
    rw [hz1] at hz
    have HZ := Lib.hid hz1
    clear hz1
    go_enter Tryd.func22, Tryd.ntmps22
    go_wp2_with (first
      | (go_at_call 30; refine (pair_is HZ.out _ HV.out).mono ?_; rintro e w1 ⟨rfl, hb⟩
         have hro := own_below HR.out hb
         have hc1 := (hb.cell (p := ⟨g, t.length, none⟩) hg.1).trans hc
         have hf1 := hro.frozenAt t.length
         have HO := Lib.hid hro
         have HB := Lib.hid hb; clear hb hro hc))
    go_ret
    obtain ⟨h1, h2⟩ := HO.out.stored t.length (.int .i32 z)
    refine ⟨_, rfl, ?_, ?_⟩
    · rw [cadd_pair HN.out, HZ.out]
      unfold RowN
      have : ((t ++ [a]).map (Value.int .i32)).set t.length (.int .i32 z) = (t ++ [z]).map (Value.int .i32) := by
        rw [List.map_append, List.map_append, List.set_append_right _ _ (by simp)]
        simp
      rw [this] at h1
      simpa using h1
    · exact (HB.out.mono hB).setCell (by simpa using hg.2) _
theorem add_any (B : Nat) (v : Value) (l : List Int) (x : Int) (w : World) (hv : Vars w) (hrow : RowN B w v l) (hB : B ≤ w.heap.size) (hl : l.length ≤ 3000) :
    Calls Tryd.prog 22 #[v, .int .i32 x] w (AddPost B l x w) := by
  rcases List.eq_nil_or_concat l with rfl | ⟨t, a, rfl⟩
  · exact add_none B v x w hrow hB
  · rw [List.concat_eq_append] at hrow hl ⊢
    exact add_some B v t a x w hv hrow hB (by simp at hl; omega)
end Go.Proofs.YtjhppkbaidcliaaDoor

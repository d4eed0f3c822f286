/-
  pair: what a letter and a mark make.
-/
import Derived.Test.YtjhppkbaidcliaaDoorJMath
namespace Go.Proofs.YtjhppkbaidcliaaDoor
open Go.RowKit

theorem index_marks : ∀ k, k < 7 → ∀ W, Sem.run Tryd.prog (Instr.index 71 (.agg #[.int .i32 768, .int .i32 769, .int .i32 770, .int .i32 771, .int .i32 776, .int .i32 778, .int .i32 807]) (.int .i64 (k : Nat))) W = .ok (.int .i32 (markTab.getD k 0)) W := by
  intro k hk W
  match k, hk with
  | 0, _ => show Sem.run _ _ W = _; kernel_rfl
  | 1, _ => show Sem.run _ _ W = _; kernel_rfl
  | 2, _ => show Sem.run _ _ W = _; kernel_rfl
  | 3, _ => show Sem.run _ _ W = _; kernel_rfl
  | 4, _ => show Sem.run _ _ W = _; kernel_rfl
  | 5, _ => show Sem.run _ _ W = _; kernel_rfl
  | 6, _ => show Sem.run _ _ W = _; kernel_rfl
theorem index_letters : ∀ k, k < 8 → ∀ W, Sem.run Tryd.prog (Instr.index 72 (.agg #[.int .i32 97, .int .i32 99, .int .i32 101, .int .i32 105, .int .i32 110, .int .i32 111, .int .i32 117, .int .i32 121]) (.int .i64 (k : Nat))) W = .ok (.int .i32 (letterTab.getD k 0)) W := by
  intro k hk W
  match k, hk with
  | 0, _ => show Sem.run _ _ W = _; kernel_rfl
  | 1, _ => show Sem.run _ _ W = _; kernel_rfl
  | 2, _ => show Sem.run _ _ W = _; kernel_rfl
  | 3, _ => show Sem.run _ _ W = _; kernel_rfl
  | 4, _ => show Sem.run _ _ W = _; kernel_rfl
  | 5, _ => show Sem.run _ _ W = _; kernel_rfl
  | 6, _ => show Sem.run _ _ W = _; kernel_rfl
  | 7, _ => show Sem.run _ _ W = _; kernel_rfl

set_option maxHeartbeats 1000000 in
set_option maxRecDepth 100000 in
theorem pair_any (a m : Int) (w : World) (hv : Vars w) : Calls Tryd.prog 30 #[.int .i32 a, .int .i32 m] w fun e w' => e = .returned (.int .i32 (madeOf a m)) ∧ Below w.heap.size w w' := by
  have HV := Lib.hid hv
  have m0 : w.cell? ⟨1, 0, none⟩ = some (.int .i32 768) := hv.marks 0 (by omega)
  have m1 : w.cell? ⟨1, 1, none⟩ = some (.int .i32 769) := hv.marks 1 (by omega)
  have m2 : w.cell? ⟨1, 2, none⟩ = some (.int .i32 770) := hv.marks 2 (by omega)
  have m3 : w.cell? ⟨1, 3, none⟩ = some (.int .i32 771) := hv.marks 3 (by omega)
  have m4 : w.cell? ⟨1, 4, none⟩ = some (.int .i32 776) := hv.marks 4 (by omega)
  have m5 : w.cell? ⟨1, 5, none⟩ = some (.int .i32 778) := hv.marks 5 (by omega)
  have m6 : w.cell? ⟨1, 6, none⟩ = some (.int .i32 807) := hv.marks 6 (by omega)
  clear hv
  go_enter Tryd.func30, Tryd.ntmps30
  go_wp2
  clear m0 m1 m2 m3 m4 m5 m6
  go_loopw [4, 10] (fun v4 i wr => ∃ k : Nat, k ≤ 7 ∧ v4 = .int .i32 0 ∧ i = .int .i64 k ∧ Below w.heap.size w wr ∧ ∀ j, j < k → ∀ r, r < 8 → ¬ (markTab.getD j 0 = m ∧ letterTab.getD r 0 = a)) (fun _ i _ => 7 - (intOf i).toNat)
  case atStart => exact ⟨0, by omega, rfl, rfl, Below.refl _ _, fun j hj => by omega⟩
  case round =>
    obtain ⟨k, hk, rfl, rfl, hb, hno⟩ := hrel
    have HN := Lib.hid hno
    have HB := Lib.hid hb
    have hvr := HV.out.below hb
    clear hno hb
    by_cases hlt : k < 7
    · have hix := index_marks k hlt
      obtain ⟨x, hx⟩ : ∃ x, markTab.getD k 0 = x := ⟨_, rfl⟩
      rw [hx] at hix
      by_cases hxm : x = m
      · subst hxm
        have HX := Lib.hid hx
        clear hx
        have n0 : wr.cell? ⟨2, 0, none⟩ = some (.int .i32 97) := hvr.letters 0 (by omega)
        have n1 : wr.cell? ⟨2, 1, none⟩ = some (.int .i32 99) := hvr.letters 1 (by omega)
        have n2 : wr.cell? ⟨2, 2, none⟩ = some (.int .i32 101) := hvr.letters 2 (by omega)
        have n3 : wr.cell? ⟨2, 3, none⟩ = some (.int .i32 105) := hvr.letters 3 (by omega)
        have n4 : wr.cell? ⟨2, 4, none⟩ = some (.int .i32 110) := hvr.letters 4 (by omega)
        have n5 : wr.cell? ⟨2, 5, none⟩ = some (.int .i32 111) := hvr.letters 5 (by omega)
        have n6 : wr.cell? ⟨2, 6, none⟩ = some (.int .i32 117) := hvr.letters 6 (by omega)
        have n7 : wr.cell? ⟨2, 7, none⟩ = some (.int .i32 121) := hvr.letters 7 (by omega)
        have HR := Lib.hid hvr
        clear hvr
        go_wp2
        clear n0 n1 n2 n3 n4 n5 n6 n7
        go_loopw [4, 18] (fun v4 i ws => ∃ r : Nat, r ≤ 8 ∧ v4 = .int .i32 0 ∧ i = .int .i64 r ∧ Below wr.heap.size wr ws ∧ ∀ j, j < r → letterTab.getD j 0 ≠ a) (fun _ i _ => 8 - (intOf i).toNat)
        case atStart => exact ⟨0, by omega, rfl, rfl, Below.refl _ _, fun j hj => by omega⟩
        case round =>
          obtain ⟨r, hr, rfl, rfl, hb, hno⟩ := hrel
          have HN2 := Lib.hid hno
          have HB2 := Lib.hid hb
          have hvr := HR.out.below hb
          clear hno hb
          by_cases hlr : r < 8
          · have hiy := index_letters r hlr
            obtain ⟨y, hy⟩ : ∃ y, letterTab.getD r 0 = y := ⟨_, rfl⟩
            rw [hy] at hiy
            by_cases hya : y = a
            · subst hya
              have hmk := hvr.made r k hlr hlt
              rw [made_at r hlr k hlt, hy, HX.out] at hmk
              clear hy hvr
              go_wp2
              go_ret
              exact ⟨rfl, HB.out.trans (HB2.out.mono HB.out.size)⟩
            · have HY := Lib.hid hy
              clear hy hvr
              go_wp2
              refine ⟨⟨r + 1, by omega, rfl, by go_num, HB2.out, fun j hj => ?_⟩, by simp [intOf]; omega⟩
              rcases Nat.lt_or_ge j r with h | h
              · exact HN2.out j h
              · obtain rfl : j = r := by omega
                rw [HY.out]; exact hya
          · clear hvr
            go_wp2
            refine ⟨⟨k + 1, by omega, rfl, by go_num, HB.out.trans (HB2.out.mono HB.out.size), fun j hj i hi => ?_⟩, by simp [intOf]; omega⟩
            rcases Nat.lt_or_ge j k with h | h
            · exact HN.out j h i hi
            · exact fun e => HN2.out i (by omega) e.2
      · have HX := Lib.hid hx
        clear hx hvr
        go_wp2
        refine ⟨⟨k + 1, by omega, rfl, by go_num, HB.out, fun j hj i hi => ?_⟩, by simp [intOf]; omega⟩
        rcases Nat.lt_or_ge j k with h | h
        · exact HN.out j h i hi
        · obtain rfl : j = k := by omega
          rw [HX.out]; exact fun e => hxm e.1
    · clear hvr
      go_wp2
      go_ret
      exact ⟨by rw [made_none (fun j hj i hi => HN.out j (by omega) i hi)]; rfl, HB.out⟩
end Go.Proofs.YtjhppkbaidcliaaDoor

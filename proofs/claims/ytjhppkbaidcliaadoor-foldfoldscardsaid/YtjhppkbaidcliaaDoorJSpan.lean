/-
  spanOf: the span that holds a code point.
-/
import Derived.Test.YtjhppkbaidcliaaDoorKVar
namespace Go.Proofs.YtjhppkbaidcliaaDoor
open Go.RowKit

def SpanRow (r : Int × Int × Int × Int) : Value := .agg #[.int .i32 r.1, .int .i32 r.2.1, .int .i64 r.2.2.1, .int .i32 r.2.2.2]
def SpanPost (c : Int) (w : World) (e : Ending) (w' : World) : Prop :=
  ((∃ i, Holds c i ∧ e = .returned (SpanRow (spanAt i))) ∨ (Free c ∧ e = .returned (SpanRow (0, 0, 0, 0)))) ∧ Below w.heap.size w w'

theorem spot_at {w : World} {b : Nat} {cs : Array Value} {t : TypeId} (h : w.heap[b]? = some (.cells cs t (0, 0))) (j : Nat) {x : Value} (hx : cs[j]? = some x) : w.cell? ⟨b, j, none⟩ = some x ∧ w.frozen? ⟨b, j, none⟩ = false := by
  constructor
  · simp [World.cell?, h, hx]
  · simp [World.frozen?, h]
theorem spot_facts {w v : World} {b : Nat} {o : Obj} {cs : Array Value} {t : TypeId} (h : w.heap[b]? = some (.cells cs t (0, 0))) (hv : v = w.alloc o) (j : Nat) {x : Value} (hx : cs[j]? = some x) : v.cell? ⟨b, j, none⟩ = some x ∧ v.frozen? ⟨b, j, none⟩ = false := by
  have hl := (Array.getElem?_eq_some_iff.1 h).1
  have h2 : v.heap[b]? = some (.cells cs t (0, 0)) := by rw [hv, Below.heap_alloc _ _ _ hl]; exact h
  constructor
  · simp [World.cell?, h2, hx]
  · simp [World.frozen?, h2]

set_option maxHeartbeats 1000000 in
set_option maxRecDepth 100000 in
theorem spanOf_any (c : Int) (w : World) (hv : Vars w) : Calls Tryd.prog 28 #[.int .i32 c] w (SpanPost c w) := by
  have HV := Lib.hid hv
  clear hv
  go_enter Tryd.func28, Tryd.ntmps28
  go_wp2
  go_step3
  go_wp2
  go_step3
  go_wp2
  obtain ⟨W2, hW2⟩ : ∃ W2, (w.alloc (.cells #[.int .i32 0, .int .i32 0, .int .i64 0, .int .i32 0] 52)).alloc (.cells #[.int .i32 0, .int .i32 0, .int .i64 0, .int .i32 0] 52) = W2 := ⟨_, rfl⟩
  have hsz : W2.heap.size = w.heap.size + 2 := by rw [← hW2]; simp
  have hB2 : Below w.heap.size w W2 := by rw [← hW2]; exact ((Below.refl _ _).alloc (Nat.le_refl _) _).alloc (by simp) _
  have hk1 : W2.heap[w.heap.size]? = some (.cells #[.int .i32 0, .int .i32 0, .int .i64 0, .int .i32 0] 52 (0, 0)) := by
    rw [← hW2, Below.heap_alloc _ _ _ (by simp)]; exact heap_alloc_new w _
  have hk2 : W2.heap[w.heap.size + 1]? = some (.cells #[.int .i32 0, .int .i32 0, .int .i64 0, .int .i32 0] 52 (0, 0)) := by
    rw [← hW2]; have := heap_alloc_new (w.alloc (.cells #[.int .i32 0, .int .i32 0, .int .i64 0, .int .i32 0] 52)) (.cells #[.int .i32 0, .int .i32 0, .int .i64 0, .int .i32 0] 52); simpa using this
  rw [hW2]
  have H2 := Lib.hid (And.intro hsz (And.intro hB2 (And.intro hk1 hk2)))
  clear hW2 hsz hB2 hk1 hk2
  go_loopw [4, 5] (fun v4 v5 wr => ∃ low high : Nat, low ≤ high ∧ high ≤ 28 ∧ v4 = .int .i64 low ∧ v5 = .int .i64 high ∧ Below W2.heap.size W2 wr ∧ (∀ i, i < low → (spanAt i).2.1 < c) ∧ (∀ i, i < 28 → high ≤ i → c < (spanAt i).1)) (fun v4 v5 _ => (intOf v5).toNat - (intOf v4).toNat)
  case atStart => exact ⟨0, 28, by omega, by omega, rfl, rfl, Below.refl _ _, fun i hi => by omega, fun i hi h => by omega⟩
  case round =>
    obtain ⟨low, high, hlh, hh, rfl, rfl, hb, hlo, hhi⟩ := hrel
    obtain ⟨hsz, hB2, hk1, hk2⟩ := H2.out
    have hbw := hB2.trans (hb.mono hB2.size)
    have hvr := HV.out.below hbw
    have hr1 := (hb.block w.heap.size (by omega)).trans hk1
    have hr2 := (hb.block (w.heap.size + 1) (by omega)).trans hk2
    have hge : w.heap.size + 2 ≤ wr.heap.size := by have := hb.size; omega
    have HH := Lib.hid (And.intro hb (And.intro hbw (And.intro hlo hhi)))
    clear hb hbw hlo hhi hB2 hk1 hk2 hsz
    by_cases hlt : low < high
    · obtain ⟨m, hm⟩ : ∃ m, (low + high) / 2 = m := ⟨_, rfl⟩
      have hm0 : low ≤ m := by omega
      have hm1 : m < high := by omega
      have hmi : ((low : Int) + (high : Int)) / 2 = (m : Int) := by omega
      obtain ⟨c0, c1, c2, c3⟩ := hvr.spans m (by omega)
      clear hvr hm
      by_cases h1 : c < (spanAt m).1
      · go_wp2
        all_goals
          obtain ⟨hb, _, hlo, _⟩ := HH.out
          refine ⟨⟨low, m, by omega, by omega, rfl, by rw [hmi], hb.alloc hb.size _, hlo, high_of h1⟩, ?_⟩
          simp [intOf]; omega
      · by_cases h2 : (spanAt m).2.1 < c
        · have h1' : (spanAt m).1 ≤ c := by omega
          go_wp2
          all_goals
            obtain ⟨hb, _, _, hhi⟩ := HH.out
            refine ⟨⟨m + 1, high, by omega, by omega, by go_num, rfl, hb.alloc hb.size _, low_of (by omega) h2, hhi⟩, ?_⟩
            simp [intOf]; omega
        · have h1' : (spanAt m).1 ≤ c := by omega
          have h2' : c ≤ (spanAt m).2.1 := by omega
          obtain ⟨a, ha⟩ : ∃ a, (spanAt m).1 = a := ⟨_, rfl⟩
          obtain ⟨b, hb⟩ : ∃ a, (spanAt m).2.1 = a := ⟨_, rfl⟩
          obtain ⟨k, hk⟩ : ∃ a, (spanAt m).2.2.1 = a := ⟨_, rfl⟩
          obtain ⟨d, hd⟩ : ∃ a, (spanAt m).2.2.2 = a := ⟨_, rfl⟩
          rw [ha] at c0 h1'
          rw [hb] at c1 h2'
          rw [hk] at c2
          rw [hd] at c3
          have HQ : Hid (Holds c m ∧ spanAt m = (a, b, k, d)) := by
            refine ⟨⟨by omega, by omega, by omega⟩, ?_⟩
            rw [← ha, ← hb, ← hk, ← hd]
          obtain ⟨e0, e1⟩ := spot_facts hr2 (o := .cells #[.int .i32 a, .int .i32 b, .int .i64 k, .int .i32 d] 52) rfl 0 rfl
          obtain ⟨e2, e3⟩ := spot_facts hr2 (o := .cells #[.int .i32 a, .int .i32 b, .int .i64 k, .int .i32 d] 52) rfl 1 rfl
          obtain ⟨e4, e5⟩ := spot_facts hr2 (o := .cells #[.int .i32 a, .int .i32 b, .int .i64 k, .int .i32 d] 52) rfl 2 rfl
          obtain ⟨e6, e7⟩ := spot_facts hr2 (o := .cells #[.int .i32 a, .int .i32 b, .int .i64 k, .int .i32 d] 52) rfl 3 rfl
          obtain ⟨g0, g1⟩ := spot_facts hr1 (o := .cells #[.int .i32 a, .int .i32 b, .int .i64 k, .int .i32 d] 52) rfl 0 rfl
          obtain ⟨g2, g3⟩ := spot_facts hr1 (o := .cells #[.int .i32 a, .int .i32 b, .int .i64 k, .int .i32 d] 52) rfl 1 rfl
          obtain ⟨g4, g5⟩ := spot_facts hr1 (o := .cells #[.int .i32 a, .int .i32 b, .int .i64 k, .int .i32 d] 52) rfl 2 rfl
          obtain ⟨g6, g7⟩ := spot_facts hr1 (o := .cells #[.int .i32 a, .int .i32 b, .int .i64 k, .int .i32 d] 52) rfl 3 rfl
          clear ha hb hk hd h1 h2 hr1 hr2
          go_wp2
          rw [Exit.noGoto_ret]
          refine bodyPost_ret (v := .agg #[.int .i32 a, .int .i32 b, .int .i64 k, .int .i32 d]) ?_ rfl ?_
          · skip
            simp [results, Tryd.results28, go_sem, e0, e1, e2, e3, e4, e5, e6, e7, g0, g1, g2, g3, g4, g5, g6, g7]
          · obtain ⟨hh1, hh2⟩ := HQ.out
            obtain ⟨_, hbw, _, _⟩ := HH.out
            refine ⟨.inl ⟨m, hh1, by rw [hh2]; rfl⟩, ?_⟩
            exact ((((((((hbw.alloc hbw.size _).setCell (by simp) _).setCell (by simp) _).setCell (by simp) _).setCell (by simp) _).setCell (by simp) _).setCell (by simp) _).setCell (by simp) _).setCell (by simp) _
    · obtain ⟨e0, e1⟩ := spot_at hr2 0 rfl
      obtain ⟨e2, e3⟩ := spot_at hr2 1 rfl
      obtain ⟨e4, e5⟩ := spot_at hr2 2 rfl
      obtain ⟨e6, e7⟩ := spot_at hr2 3 rfl
      obtain ⟨g0, g1⟩ := spot_at hr1 0 rfl
      obtain ⟨g2, g3⟩ := spot_at hr1 1 rfl
      obtain ⟨g4, g5⟩ := spot_at hr1 2 rfl
      obtain ⟨g6, g7⟩ := spot_at hr1 3 rfl
      clear hvr hr1 hr2
      go_wp2
      rw [Exit.noGoto_ret]
      refine bodyPost_ret (v := .agg #[.int .i32 0, .int .i32 0, .int .i64 0, .int .i32 0]) ?_ rfl ?_
      · skip
        simp [results, Tryd.results28, go_sem, e0, e1, e2, e3, e4, e5, e6, e7, g0, g1, g2, g3, g4, g5, g6, g7]
      · obtain ⟨_, hbw, hlo, hhi⟩ := HH.out
        refine ⟨.inr ⟨free_of hlo (fun i hi hm => hhi i hi (by omega)), rfl⟩, ?_⟩
        exact (((hbw.setCell (by simp) _).setCell (by simp) _).setCell (by simp) _).setCell (by simp) _
end Go.Proofs.YtjhppkbaidcliaaDoor

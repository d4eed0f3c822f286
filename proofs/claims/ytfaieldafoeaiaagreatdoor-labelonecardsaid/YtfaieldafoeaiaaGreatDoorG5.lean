/-
  In this text, one behind the other: HFind, JSpan, JMath, JTell, JPair, JAdd, JBox, FIs, KCon, JTop, JFold, NCon, LAll.
-/
import Derived.Test.YtfaieldafoeaiaaGreatDoorG4
import Derived.Test.YtfaieldafoeaiaaGreatDoorG1
import Derived.Test.YtfaieldafoeaiaaGreatDoorG2
/-
  slices.IndexFunc and ContainsFunc at the closures of package label; isASCII.
-/
namespace Go.Proofs.YtfaieldafoeaiaaGreatDoor
open Go.RowKit

/-- The place of the first one that is so; -1. -/
def at6 (p : Int → Bool) (l : List Int) : Int := if l.findIdx p < l.length then ((l.findIdx p : Nat) : Int) else -1
theorem at6_here {p : Int → Bool} {l : List Int} {k : Nat} (h : k < l.length) (hb : p l[k] = true) (hp : ∀ c ∈ l.take k, p c = false) : at6 p l = k := by
  have : l.findIdx p = k := by
    rw [List.findIdx_eq h]
    refine ⟨hb, fun j hj => ?_⟩
    exact hp l[j] (by rw [List.mem_take_iff_getElem]; exact ⟨j, by omega, rfl⟩)
  unfold at6
  rw [this, if_pos h]
theorem at6_none {p : Int → Bool} {l : List Int} (hp : ∀ c ∈ l, p c = false) : at6 p l = -1 := by
  have : l.findIdx p = l.length := by
    rw [List.findIdx_eq_length]
    exact hp
  unfold at6
  rw [this, if_neg (by omega)]
theorem any6_at (p : Int → Bool) (l : List Int) : decide (0 ≤ at6 p l) = l.any p := by
  unfold at6
  rw [Bool.eq_iff_iff, decide_eq_true_eq, List.any_eq_true]
  constructor
  · intro h
    split at h
    · rename_i hlt
      exact ⟨_, List.getElem_mem hlt, List.findIdx_getElem (w := hlt)⟩
    · omega
  · rintro ⟨x, hx, hp⟩
    rw [if_pos (List.findIdx_lt_length_of_exists ⟨x, hx, hp⟩)]
    omega

set_option maxHeartbeats 400000 in
theorem index_far (A : Option Addr) (l : List Int) (cap : Nat) (w : World) (h : Runes w A l) (hl : l.length ≤ 100000) :
    Calls Tryz.prog 41 #[.slice A l.length cap, .func (.func 40) #[] #[]] w fun e w' => e = .returned (.int .i64 (at6 far l)) ∧ w = w' := by
  go_enter Tryz.func41, Tryz.ntmps41
  go_wp2
  go_loopw [8] (fun i wr => ∃ k : Nat, k ≤ l.length ∧ i = .int .i64 k ∧ wr = w ∧ ∀ c ∈ l.take k, far c = false) (fun i _ => l.length - (intOf i).toNat)
  case atStart => exact ⟨0, Nat.zero_le _, rfl, rfl, by simp⟩
  case round =>
    obtain ⟨k, hk, rfl, hw, hp⟩ := hrel
    have := hw.symm; subst this
    have HP := Lib.hid hp
    clear hp hw
    by_cases hlt : k < l.length
    · obtain ⟨b, off, rfl, _, hc⟩ := h k l[k] (List.getElem?_eq_getElem hlt)
      clear h
      have HC := far_any l[k] w
      cases hs : far l[k] with
      | false =>
        rw [hs] at HC
        have HN := Lib.hid (take_snoc (p := fun c => far c = false) hlt HP.out hs)
        clear hs
        go_wp2_with (first | (go_at_call 40; refine HC.mono ?_; rintro e w' ⟨rfl, rfl⟩))
        go_roundw
        case rel => exact ⟨k + 1, by omega, by go_num, by first | rfl | trivial, HN.out⟩
        case measure => simp [intOf]; omega
      | true =>
        rw [hs] at HC
        have HN := Lib.hid (at6_here hlt hs HP.out)
        clear hs
        go_wp2_with (first | (go_at_call 40; refine HC.mono ?_; rintro e w' ⟨rfl, rfl⟩))
        go_ret
        exact ⟨by rw [HN.out]; rfl, rfl⟩
    · have HN : Hid (at6 far l = -1) := at6_none (by have := HP.out; rw [List.take_of_length_le (by omega)] at this; exact this)
      clear h
      go_wp2
      go_ret
      exact ⟨by rw [HN.out]; rfl, rfl⟩
theorem has_far (A : Option Addr) (l : List Int) (cap : Nat) (w : World) (h : Runes w A l) (hl : l.length ≤ 100000) :
    Calls Tryz.prog 16 #[.slice A l.length cap, .func (.func 40) #[] #[]] w fun e w' => e = .returned (.bool (l.any far)) ∧ w = w' := by
  have HC := index_far A l cap w h hl
  clear h
  have HB := Lib.hid (any6_at far l)
  go_enter Tryz.func16, Tryz.ntmps16
  go_wp2_with (first | (go_at_call 41; refine HC.mono ?_; rintro e w' ⟨rfl, rfl⟩))
  go_ret
  refine ⟨?_, rfl⟩
  rw [← HB.out]
  try simp

set_option maxHeartbeats 400000 in
theorem index_noS (A : Option Addr) (l : List Int) (cap : Nat) (w : World) (h : Runes w A l) (hl : l.length ≤ 100000) :
    Calls Tryz.prog 41 #[.slice A l.length cap, .func (.func 17) #[] #[]] w fun e w' => e = .returned (.int .i64 (at6 noS l)) ∧ w = w' := by
  go_enter Tryz.func41, Tryz.ntmps41
  go_wp2
  go_loopw [8] (fun i wr => ∃ k : Nat, k ≤ l.length ∧ i = .int .i64 k ∧ wr = w ∧ ∀ c ∈ l.take k, noS c = false) (fun i _ => l.length - (intOf i).toNat)
  case atStart => exact ⟨0, Nat.zero_le _, rfl, rfl, by simp⟩
  case round =>
    obtain ⟨k, hk, rfl, hw, hp⟩ := hrel
    have := hw.symm; subst this
    have HP := Lib.hid hp
    clear hp hw
    by_cases hlt : k < l.length
    · obtain ⟨b, off, rfl, _, hc⟩ := h k l[k] (List.getElem?_eq_getElem hlt)
      clear h
      have HC := noS_any l[k] w
      cases hs : noS l[k] with
      | false =>
        rw [hs] at HC
        have HN := Lib.hid (take_snoc (p := fun c => noS c = false) hlt HP.out hs)
        clear hs
        go_wp2_with (first | (go_at_call 17; refine HC.mono ?_; rintro e w' ⟨rfl, rfl⟩))
        go_roundw
        case rel => exact ⟨k + 1, by omega, by go_num, by first | rfl | trivial, HN.out⟩
        case measure => simp [intOf]; omega
      | true =>
        rw [hs] at HC
        have HN := Lib.hid (at6_here hlt hs HP.out)
        clear hs
        go_wp2_with (first | (go_at_call 17; refine HC.mono ?_; rintro e w' ⟨rfl, rfl⟩))
        go_ret
        exact ⟨by rw [HN.out]; rfl, rfl⟩
    · have HN : Hid (at6 noS l = -1) := at6_none (by have := HP.out; rw [List.take_of_length_le (by omega)] at this; exact this)
      clear h
      go_wp2
      go_ret
      exact ⟨by rw [HN.out]; rfl, rfl⟩
theorem has_noS (A : Option Addr) (l : List Int) (cap : Nat) (w : World) (h : Runes w A l) (hl : l.length ≤ 100000) :
    Calls Tryz.prog 16 #[.slice A l.length cap, .func (.func 17) #[] #[]] w fun e w' => e = .returned (.bool (l.any noS)) ∧ w = w' := by
  have HC := index_noS A l cap w h hl
  clear h
  have HB := Lib.hid (any6_at noS l)
  go_enter Tryz.func16, Tryz.ntmps16
  go_wp2_with (first | (go_at_call 41; refine HC.mono ?_; rintro e w' ⟨rfl, rfl⟩))
  go_ret
  refine ⟨?_, rfl⟩
  rw [← HB.out]
  try simp

theorem any_far (l : List Int) : (!(l.any far)) = plainL l := by
  unfold plainL
  rw [List.not_any_eq_all_not]
  congr 1
  funext c
  simp only [far]
  rw [Bool.eq_iff_iff]
  simp
theorem ascii_any (A : Option Addr) (l : List Int) (cap : Nat) (w : World) (h : Runes w A l) (hl : l.length ≤ 100000) :
    Calls Tryz.prog 15 #[.slice A l.length cap] w fun e w' => e = .returned (.bool (plainL l)) ∧ w = w' := by
  have HC := has_far A l cap w h hl
  clear h
  have HB := Lib.hid (any_far l)
  go_enter Tryz.func15, Tryz.ntmps15
  go_wp2_with (first | (go_at_call 16; refine HC.mono ?_; rintro e w' ⟨rfl, rfl⟩))
  go_ret
  refine ⟨?_, rfl⟩
  rw [← HB.out]
  rfl
end Go.Proofs.YtfaieldafoeaiaaGreatDoor

/-
  spanOf: the span that holds a code point.
-/
namespace Go.Proofs.YtfaieldafoeaiaaGreatDoor
open Go.RowKit

def SpanRow (r : Int × Int × Int × Int) : Value := .agg #[.int .i32 r.1, .int .i32 r.2.1, .int .i64 r.2.2.1, .int .i32 r.2.2.2]
def SpanPost (c : Int) (w : World) (e : Ending) (w' : World) : Prop :=
  ((∃ i, Holds c i ∧ e = .returned (SpanRow (spanAt i))) ∨ (Free c ∧ e = .returned (SpanRow (0, 0, 0, 0)))) ∧ Below w.heap.size w w'

theorem spot_at {w : World} {b : Nat} {cs : Array Value} {t : TypeId} (h : w.heap[b]? = some (.cells cs t (0, 0))) (j : Nat) {x : Value} (hx : cs[j]? = some x) : w.cell? ⟨b, j, none⟩ = some x ∧ w.frozen? ⟨b, j, none⟩ = false := by
  constructor
  · simp [World.cell?, h, hx]
  · simp [World.frozen?, h]
theorem spot_facts {w v : World} {b : Nat} {o : Obj} {cs : Array Value} {t : TypeId} (h : w.heap[b]? = some (.cells cs t (0, 0))) (hv : v = w.alloc o) (j : Nat) {x : Value} (hx : cs[j]? = some x) : v.cell? ⟨b, j, none⟩ = some x ∧ v.frozen? ⟨b, j, none⟩ = false := by
  have hl := (Array.getElem?_eq_some_iff.1 h).1
  have h2 : v.heap[b]? = some (.cells cs t (0, 0)) := by rw [hv, Below.heap_alloc _ _ _ hl]; exact h
  constructor
  · simp [World.cell?, h2, hx]
  · simp [World.frozen?, h2]

set_option maxHeartbeats 1000000 in
set_option maxRecDepth 100000 in
theorem spanOf_any (c : Int) (w : World) (hv : Vars w) : Calls Tryz.prog 91 #[.int .i32 c] w (SpanPost c w) := by
  have HV := Lib.hid hv
  clear hv
  go_enter Tryz.func91, Tryz.ntmps91
  go_wp2
  go_step3
  go_wp2
  go_step3
  go_wp2
  obtain ⟨W2, hW2⟩ : ∃ W2, (w.alloc (.cells #[.int .i32 0, .int .i32 0, .int .i64 0, .int .i32 0] 136)).alloc (.cells #[.int .i32 0, .int .i32 0, .int .i64 0, .int .i32 0] 136) = W2 := ⟨_, rfl⟩
  have hsz : W2.heap.size = w.heap.size + 2 := by rw [← hW2]; simp
  have hB2 : Below w.heap.size w W2 := by rw [← hW2]; exact ((Below.refl _ _).alloc (Nat.le_refl _) _).alloc (by simp) _
  have hk1 : W2.heap[w.heap.size]? = some (.cells #[.int .i32 0, .int .i32 0, .int .i64 0, .int .i32 0] 136 (0, 0)) := by
    rw [← hW2, Below.heap_alloc _ _ _ (by simp)]; exact heap_alloc_new w _
  have hk2 : W2.heap[w.heap.size + 1]? = some (.cells #[.int .i32 0, .int .i32 0, .int .i64 0, .int .i32 0] 136 (0, 0)) := by
    rw [← hW2]; have := heap_alloc_new (w.alloc (.cells #[.int .i32 0, .int .i32 0, .int .i64 0, .int .i32 0] 136)) (.cells #[.int .i32 0, .int .i32 0, .int .i64 0, .int .i32 0] 136); simpa using this
  rw [hW2]
  have H2 := Lib.hid (And.intro hsz (And.intro hB2 (And.intro hk1 hk2)))
  clear hW2 hsz hB2 hk1 hk2
  go_loopw [4, 5] (fun v4 v5 wr => ∃ low high : Nat, low ≤ high ∧ high ≤ 28 ∧ v4 = .int .i64 low ∧ v5 = .int .i64 high ∧ Below W2.heap.size W2 wr ∧ (∀ i, i < low → (spanAt i).2.1 < c) ∧ (∀ i, i < 28 → high ≤ i → c < (spanAt i).1)) (fun v4 v5 _ => (intOf v5).toNat - (intOf v4).toNat)
  case atStart => exact ⟨0, 28, by omega, by omega, rfl, rfl, Below.refl _ _, fun i hi => by omega, fun i hi h => by omega⟩
  case round =>
    obtain ⟨low, high, hlh, hh, rfl, rfl, hb, hlo, hhi⟩ := hrel
    obtain ⟨hsz, hB2, hk1, hk2⟩ := H2.out
    have hbw := hB2.trans (hb.mono hB2.size)
    have hvr := HV.out.below hbw
    have hr1 := (hb.block w.heap.size (by omega)).trans hk1
    have hr2 := (hb.block (w.heap.size + 1) (by omega)).trans hk2
    have hge : w.heap.size + 2 ≤ wr.heap.size := by have := hb.size; omega
    have HH := Lib.hid (And.intro hb (And.intro hbw (And.intro hlo hhi)))
    clear hb hbw hlo hhi hB2 hk1 hk2 hsz
    by_cases hlt : low < high
    · obtain ⟨m, hm⟩ : ∃ m, (low + high) / 2 = m := ⟨_, rfl⟩
      have hm0 : low ≤ m := by omega
      have hm1 : m < high := by omega
      have hmi : ((low : Int) + (high : Int)) / 2 = (m : Int) := by omega
      obtain ⟨c0, c1, c2, c3⟩ := hvr.spans m (by omega)
      clear hvr hm
      by_cases h1 : c < (spanAt m).1
      · go_wp2
        all_goals
          obtain ⟨hb, _, hlo, _⟩ := HH.out
          refine ⟨⟨low, m, by omega, by omega, rfl, by rw [hmi], hb.alloc hb.size _, hlo, high_of h1⟩, ?_⟩
          simp [intOf]; omega
      · by_cases h2 : (spanAt m).2.1 < c
        · have h1' : (spanAt m).1 ≤ c := by omega
          go_wp2
          all_goals
            obtain ⟨hb, _, _, hhi⟩ := HH.out
            refine ⟨⟨m + 1, high, by omega, by omega, by go_num, rfl, hb.alloc hb.size _, low_of (by omega) h2, hhi⟩, ?_⟩
            simp [intOf]; omega
        · have h1' : (spanAt m).1 ≤ c := by omega
          have h2' : c ≤ (spanAt m).2.1 := by omega
          obtain ⟨a, ha⟩ : ∃ a, (spanAt m).1 = a := ⟨_, rfl⟩
          obtain ⟨b, hb⟩ : ∃ a, (spanAt m).2.1 = a := ⟨_, rfl⟩
          obtain ⟨k, hk⟩ : ∃ a, (spanAt m).2.2.1 = a := ⟨_, rfl⟩
          obtain ⟨d, hd⟩ : ∃ a, (spanAt m).2.2.2 = a := ⟨_, rfl⟩
          rw [ha] at c0 h1'
          rw [hb] at c1 h2'
          rw [hk] at c2
          rw [hd] at c3
          have HQ : Hid (Holds c m ∧ spanAt m = (a, b, k, d)) := by
            refine ⟨⟨by omega, by omega, by omega⟩, ?_⟩
            rw [← ha, ← hb, ← hk, ← hd]
          obtain ⟨e0, e1⟩ := spot_facts hr2 (o := .cells #[.int .i32 a, .int .i32 b, .int .i64 k, .int .i32 d] 136) rfl 0 rfl
          obtain ⟨e2, e3⟩ := spot_facts hr2 (o := .cells #[.int .i32 a, .int .i32 b, .int .i64 k, .int .i32 d] 136) rfl 1 rfl
          obtain ⟨e4, e5⟩ := spot_facts hr2 (o := .cells #[.int .i32 a, .int .i32 b, .int .i64 k, .int .i32 d] 136) rfl 2 rfl
          obtain ⟨e6, e7⟩ := spot_facts hr2 (o := .cells #[.int .i32 a, .int .i32 b, .int .i64 k, .int .i32 d] 136) rfl 3 rfl
          obtain ⟨g0, g1⟩ := spot_facts hr1 (o := .cells #[.int .i32 a, .int .i32 b, .int .i64 k, .int .i32 d] 136) rfl 0 rfl
          obtain ⟨g2, g3⟩ := spot_facts hr1 (o := .cells #[.int .i32 a, .int .i32 b, .int .i64 k, .int .i32 d] 136) rfl 1 rfl
          obtain ⟨g4, g5⟩ := spot_facts hr1 (o := .cells #[.int .i32 a, .int .i32 b, .int .i64 k, .int .i32 d] 136) rfl 2 rfl
          obtain ⟨g6, g7⟩ := spot_facts hr1 (o := .cells #[.int .i32 a, .int .i32 b, .int .i64 k, .int .i32 d] 136) rfl 3 rfl
          clear ha hb hk hd h1 h2 hr1 hr2
          go_wp2
          rw [Exit.noGoto_ret]
          refine bodyPost_ret (v := .agg #[.int .i32 a, .int .i32 b, .int .i64 k, .int .i32 d]) ?_ rfl ?_
          · skip
            simp [results, Tryz.results91, go_sem, g0, g2, g4, g6]
          · obtain ⟨hh1, hh2⟩ := HQ.out
            obtain ⟨_, hbw, _, _⟩ := HH.out
            refine ⟨.inl ⟨m, hh1, by rw [hh2]; rfl⟩, ?_⟩
            exact ((((((((hbw.alloc hbw.size _).setCell (by simp) _).setCell (by simp) _).setCell (by simp) _).setCell (by simp) _).setCell (by simp) _).setCell (by simp) _).setCell (by simp) _).setCell (by simp) _
    · obtain ⟨e0, e1⟩ := spot_at hr2 0 rfl
      obtain ⟨e2, e3⟩ := spot_at hr2 1 rfl
      obtain ⟨e4, e5⟩ := spot_at hr2 2 rfl
      obtain ⟨e6, e7⟩ := spot_at hr2 3 rfl
      obtain ⟨g0, g1⟩ := spot_at hr1 0 rfl
      obtain ⟨g2, g3⟩ := spot_at hr1 1 rfl
      obtain ⟨g4, g5⟩ := spot_at hr1 2 rfl
      obtain ⟨g6, g7⟩ := spot_at hr1 3 rfl
      clear hvr hr1 hr2
      go_wp2
      rw [Exit.noGoto_ret]
      refine bodyPost_ret (v := .agg #[.int .i32 0, .int .i32 0, .int .i64 0, .int .i32 0]) ?_ rfl ?_
      · skip
        simp [results, Tryz.results91, go_sem, g0, g2, g4, g6]
      · obtain ⟨_, hbw, hlo, hhi⟩ := HH.out
        refine ⟨.inr ⟨free_of hlo (fun i hi hm => hhi i hi (by omega)), rfl⟩, ?_⟩
        exact (((hbw.setCell (by simp) _).setCell (by simp) _).setCell (by simp) _).setCell (by simp) _
end Go.Proofs.YtfaieldafoeaiaaGreatDoor

/-
  Why the program's tables tell what the document does; why it composes as it goes.
-/
namespace Go.Proofs.YtfaieldafoeaiaaGreatDoor

/-- What a span tells of a number that it holds. -/
def Tells (c : Int) (k d : Int) : Prop :=
  (k = 1 ∧ Barred c) ∨ (k = 2 ∧ ¬ Barred c ∧ mapTo c = []) ∨ (k = 3 ∧ ¬ Barred c ∧ mapTo c = [46]) ∨ (k = 4 ∧ 65281 ≤ c ∧ c ≤ 65374) ∨ (k = 5 ∧ ¬ Barred c ∧ mapTo c = [115, 115]) ∨
    (k = 0 ∧ ¬ Barred c ∧ mapTo c = [c + d] ∧ 0 ≤ c ∧ c < 1114112 ∧ 0 ≤ d ∧ d ≤ 80)
theorem t_bar {c d : Int} (h : Barred c) : Tells c 1 d := .inl ⟨rfl, h⟩
theorem t_none {c d : Int} (hb : ¬ Barred c) (h : c = 173 ∨ c = 8203 ∨ c = 8288 ∨ c = 65279) : Tells c 2 d := .inr (.inl ⟨rfl, hb, m_none h⟩)
theorem t_dot {c d : Int} (hb : ¬ Barred c) (h : c = 12290 ∨ c = 65377) : Tells c 3 d := .inr (.inr (.inl ⟨rfl, hb, m_dot h⟩))
theorem t_wide {c d : Int} (h1 : 65281 ≤ c) (h2 : c ≤ 65374) : Tells c 4 d := .inr (.inr (.inr (.inl ⟨rfl, h1, h2⟩)))
theorem t_ss {c d : Int} (hb : ¬ Barred c) (h : c = 7838) : Tells c 5 d := .inr (.inr (.inr (.inr (.inl ⟨rfl, hb, m_ss h⟩))))
theorem t_cap {c : Int} (hb : ¬ Barred c) (h : Cap c) : Tells c 0 32 := .inr (.inr (.inr (.inr (.inr ⟨rfl, hb, m_cap h, by unfold Barred at hb; omega, by unfold Barred at hb; omega, by omega, by omega⟩))))
theorem t_cyr {c : Int} (hb : ¬ Barred c) (h : 1024 ≤ c ∧ c ≤ 1039) : Tells c 0 80 := .inr (.inr (.inr (.inr (.inr ⟨rfl, hb, m_cyr h, by omega, by omega, by omega, by omega⟩))))
theorem span_tells {c : Int} {i : Nat} (h : Holds c i) : Tells c (spanAt i).2.2.1 (spanAt i).2.2.2 := by
  obtain ⟨hi, h1, h2⟩ := h
  match i, hi, h1, h2 with
  | 0, _, h1, h2 =>
    have h1 : (-2147483648 : Int) ≤ c := h1
    have h2 : c ≤ -1 := h2
    exact t_bar (by unfold Barred; omega)
  | 1, _, h1, h2 =>
    have h1 : (65 : Int) ≤ c := h1
    have h2 : c ≤ 90 := h2
    exact t_cap (by unfold Barred; omega) (by unfold Cap; omega)
  | 2, _, h1, h2 =>
    have h1 : (128 : Int) ≤ c := h1
    have h2 : c ≤ 160 := h2
    exact t_bar (by unfold Barred; omega)
  | 3, _, h1, h2 =>
    have h1 : (173 : Int) ≤ c := h1
    have h2 : c ≤ 173 := h2
    exact t_none (by unfold Barred; omega) (by omega)
  | 4, _, h1, h2 =>
    have h1 : (192 : Int) ≤ c := h1
    have h2 : c ≤ 214 := h2
    exact t_cap (by unfold Barred; omega) (by unfold Cap; omega)
  | 5, _, h1, h2 =>
    have h1 : (216 : Int) ≤ c := h1
    have h2 : c ≤ 222 := h2
    exact t_cap (by unfold Barred; omega) (by unfold Cap; omega)
  | 6, _, h1, h2 =>
    have h1 : (913 : Int) ≤ c := h1
    have h2 : c ≤ 929 := h2
    exact t_cap (by unfold Barred; omega) (by unfold Cap; omega)
  | 7, _, h1, h2 =>
    have h1 : (931 : Int) ≤ c := h1
    have h2 : c ≤ 937 := h2
    exact t_cap (by unfold Barred; omega) (by unfold Cap; omega)
  | 8, _, h1, h2 =>
    have h1 : (1024 : Int) ≤ c := h1
    have h2 : c ≤ 1039 := h2
    exact t_cyr (by unfold Barred; omega) (by omega)
  | 9, _, h1, h2 =>
    have h1 : (1040 : Int) ≤ c := h1
    have h2 : c ≤ 1071 := h2
    exact t_cap (by unfold Barred; omega) (by unfold Cap; omega)
  | 10, _, h1, h2 =>
    have h1 : (5760 : Int) ≤ c := h1
    have h2 : c ≤ 5760 := h2
    exact t_bar (by unfold Barred; omega)
  | 11, _, h1, h2 =>
    have h1 : (7838 : Int) ≤ c := h1
    have h2 : c ≤ 7838 := h2
    exact t_ss (by unfold Barred; omega) (by omega)
  | 12, _, h1, h2 =>
    have h1 : (8192 : Int) ≤ c := h1
    have h2 : c ≤ 8202 := h2
    exact t_bar (by unfold Barred; omega)
  | 13, _, h1, h2 =>
    have h1 : (8203 : Int) ≤ c := h1
    have h2 : c ≤ 8203 := h2
    exact t_none (by unfold Barred; omega) (by omega)
  | 14, _, h1, h2 =>
    have h1 : (8206 : Int) ≤ c := h1
    have h2 : c ≤ 8207 := h2
    exact t_bar (by unfold Barred; omega)
  | 15, _, h1, h2 =>
    have h1 : (8232 : Int) ≤ c := h1
    have h2 : c ≤ 8239 := h2
    exact t_bar (by unfold Barred; omega)
  | 16, _, h1, h2 =>
    have h1 : (8287 : Int) ≤ c := h1
    have h2 : c ≤ 8287 := h2
    exact t_bar (by unfold Barred; omega)
  | 17, _, h1, h2 =>
    have h1 : (8288 : Int) ≤ c := h1
    have h2 : c ≤ 8288 := h2
    exact t_none (by unfold Barred; omega) (by omega)
  | 18, _, h1, h2 =>
    have h1 : (8294 : Int) ≤ c := h1
    have h2 : c ≤ 8297 := h2
    exact t_bar (by unfold Barred; omega)
  | 19, _, h1, h2 =>
    have h1 : (12290 : Int) ≤ c := h1
    have h2 : c ≤ 12290 := h2
    exact t_dot (by unfold Barred; omega) (by omega)
  | 20, _, h1, h2 =>
    have h1 : (55296 : Int) ≤ c := h1
    have h2 : c ≤ 57343 := h2
    exact t_bar (by unfold Barred; omega)
  | 21, _, h1, h2 =>
    have h1 : (57344 : Int) ≤ c := h1
    have h2 : c ≤ 63743 := h2
    exact t_bar (by unfold Barred; omega)
  | 22, _, h1, h2 =>
    have h1 : (64976 : Int) ≤ c := h1
    have h2 : c ≤ 65007 := h2
    exact t_bar (by unfold Barred; omega)
  | 23, _, h1, h2 =>
    have h1 : (65279 : Int) ≤ c := h1
    have h2 : c ≤ 65279 := h2
    exact t_none (by unfold Barred; omega) (by omega)
  | 24, _, h1, h2 =>
    have h1 : (65281 : Int) ≤ c := h1
    have h2 : c ≤ 65374 := h2
    exact t_wide (by omega) (by omega)
  | 25, _, h1, h2 =>
    have h1 : (65377 : Int) ≤ c := h1
    have h2 : c ≤ 65377 := h2
    exact t_dot (by unfold Barred; omega) (by omega)
  | 26, _, h1, h2 =>
    have h1 : (65529 : Int) ≤ c := h1
    have h2 : c ≤ 65535 := h2
    exact t_bar (by unfold Barred; omega)
  | 27, _, h1, h2 =>
    have h1 : (917504 : Int) ≤ c := h1
    have h2 : c ≤ 2147483647 := h2
    exact t_bar (by unfold Barred; omega)
  | i + 28, hi, _, _ => omega
theorem free_tells {c : Int} (h : Free c) (h0 : -2147483648 ≤ c) (h1 : c < 2147483648) : ¬ Barred c ∧ mapTo c = [c] ∧ 0 ≤ c ∧ c < 1114112 := by
  have f0 : c < -2147483648 ∨ -1 < c := h 0 (by omega)
  have f1 : c < 65 ∨ 90 < c := h 1 (by omega)
  have f2 : c < 128 ∨ 160 < c := h 2 (by omega)
  have f3 : c < 173 ∨ 173 < c := h 3 (by omega)
  have f4 : c < 192 ∨ 214 < c := h 4 (by omega)
  have f5 : c < 216 ∨ 222 < c := h 5 (by omega)
  have f6 : c < 913 ∨ 929 < c := h 6 (by omega)
  have f7 : c < 931 ∨ 937 < c := h 7 (by omega)
  have f8 : c < 1024 ∨ 1039 < c := h 8 (by omega)
  have f9 : c < 1040 ∨ 1071 < c := h 9 (by omega)
  have f10 : c < 5760 ∨ 5760 < c := h 10 (by omega)
  have f11 : c < 7838 ∨ 7838 < c := h 11 (by omega)
  have f12 : c < 8192 ∨ 8202 < c := h 12 (by omega)
  have f13 : c < 8203 ∨ 8203 < c := h 13 (by omega)
  have f14 : c < 8206 ∨ 8207 < c := h 14 (by omega)
  have f15 : c < 8232 ∨ 8239 < c := h 15 (by omega)
  have f16 : c < 8287 ∨ 8287 < c := h 16 (by omega)
  have f17 : c < 8288 ∨ 8288 < c := h 17 (by omega)
  have f18 : c < 8294 ∨ 8297 < c := h 18 (by omega)
  have f19 : c < 12290 ∨ 12290 < c := h 19 (by omega)
  have f20 : c < 55296 ∨ 57343 < c := h 20 (by omega)
  have f21 : c < 57344 ∨ 63743 < c := h 21 (by omega)
  have f22 : c < 64976 ∨ 65007 < c := h 22 (by omega)
  have f23 : c < 65279 ∨ 65279 < c := h 23 (by omega)
  have f24 : c < 65281 ∨ 65374 < c := h 24 (by omega)
  have f25 : c < 65377 ∨ 65377 < c := h 25 (by omega)
  have f26 : c < 65529 ∨ 65535 < c := h 26 (by omega)
  have f27 : c < 917504 ∨ 2147483647 < c := h 27 (by omega)
  clear h
  refine ⟨by unfold Barred; omega, m_self (by omega) (by omega) (by omega) (by unfold Cap; omega) (by omega) (by omega), by omega, by omega⟩
theorem wide_back {c : Int} (h1 : 65281 ≤ c) (h2 : c ≤ 65374) : ¬ Barred c ∧ ¬ Barred (c - 65248) ∧ mapTo (c - 65248) = mapTo c := by
  refine ⟨by unfold Barred; omega, by unfold Barred; omega, ?_⟩
  rw [m_rest (c := c) (by omega) (by omega), m_rest (c := c - 65248) (by omega) (by omega), wide_in ⟨h1, h2⟩, wide_out (by omega)]

/-! Pairs. -/
theorem made_at : ∀ i, i < 8 → ∀ j, j < 7 → madeAt i j = madeOf (letterTab.getD i 0) (markTab.getD j 0) := by decide +kernel
theorem pairs_in : ∀ p ∈ pairs, (∃ i, i < 8 ∧ letterTab.getD i 0 = p.1) ∧ ∃ j, j < 7 ∧ markTab.getD j 0 = p.2.1 := by decide +kernel
theorem made_none {a m : Int} (h : ∀ j, j < 7 → ∀ i, i < 8 → ¬ (markTab.getD j 0 = m ∧ letterTab.getD i 0 = a)) : madeOf a m = 0 := by
  by_cases e : madeOf a m = 0
  · exact e
  · obtain ⟨⟨i, hi, h1⟩, j, hj, h2⟩ := pairs_in _ (madeIn_ne e)
    exact absurd ⟨h2, h1⟩ (h j hj i hi)

/-! Composing as it goes. -/
/-- A code point behind a list that is composed. -/
def cadd (l : List Int) (x : Int) : List Int := match l.getLast? with
  | none => [x]
  | some a => if madeOf a x = 0 then l ++ [x] else l.dropLast ++ [madeOf a x]
theorem cadd_nil (x : Int) : cadd [] x = [x] := rfl
theorem cadd_cons {a : Int} {l : List Int} (x : Int) (h : l ≠ []) : cadd (a :: l) x = a :: cadd l x := by
  obtain ⟨y, t, rfl⟩ := List.exists_cons_of_ne_nil h
  unfold cadd
  rw [List.getLast?_cons_cons]
  cases e : (y :: t).getLast? with
  | none => simp at e
  | some z =>
    simp only
    split
    · rfl
    · simp [List.dropLast]
theorem comp_snoc (x : Int) : ∀ (n : Nat) (l : List Int), l.length ≤ n → comp (l ++ [x]) = cadd (comp l) x := by
  intro n
  induction n with
  | zero => intro l h; rw [List.eq_nil_of_length_eq_zero (l := l) (by omega)]; rfl
  | succ n ih =>
    intro l h
    match l, h with
    | [], _ => rfl
    | [a], _ =>
      by_cases e : madeOf a x = 0
      · show comp (a :: x :: []) = _
        rw [comp_keep e]
        simp [comp, cadd, e]
      · show comp (a :: x :: []) = _
        rw [comp_pair e]
        simp [comp, cadd, e]
    | a :: b :: t, h =>
      simp only [List.length_cons] at h
      by_cases e : madeOf a b = 0
      · rw [comp_keep e, cadd_cons x (comp_ne b t), ← ih (b :: t) (by simp only [List.length_cons]; omega)]
        show comp (a :: b :: (t ++ [x])) = _
        rw [comp_keep e]
        rfl
      · rw [comp_pair e]
        show comp (a :: b :: (t ++ [x])) = _
        rw [comp_pair e, ih t (by omega)]
        by_cases ht : comp t = []
        · rw [ht]
          simp [cadd, made_left e]
        · rw [cadd_cons x ht]
theorem cadd_length (l : List Int) (x : Int) : (cadd l x).length ≤ l.length + 1 := by
  unfold cadd
  split
  · simp
  · split
    · simp
    · simp
end Go.Proofs.YtfaieldafoeaiaaGreatDoor

/-
  tell: what a code point is mapped to, handed on one by one; at the closures of Map and of Fold.
-/
namespace Go.Proofs.YtfaieldafoeaiaaGreatDoor
open Go.RowKit

theorem span_apart : ∀ i, i < 28 → ∀ j, j < 28 → i < j → (spanAt i).2.1 < (spanAt j).1 := by decide +kernel
theorem holds_one {c : Int} {i j : Nat} (h : Holds c i) (k : Holds c j) : i = j := by
  obtain ⟨h0, h1, h2⟩ := h
  obtain ⟨k0, k1, k2⟩ := k
  rcases Nat.lt_trichotomy i j with h | h | h
  · have := span_apart i h0 j k0 h; omega
  · exact h
  · have := span_apart j k0 i h0 h; omega
/-- What spanOf tells of a number, whatever the world. -/
def SpanIs (c a b k d : Int) : Prop := ∀ w : World, Vars w → Calls Tryz.prog 91 #[.int .i32 c] w fun e w' => e = .returned (.agg #[.int .i32 a, .int .i32 b, .int .i64 k, .int .i32 d]) ∧ Below w.heap.size w w'
theorem span_is (c : Int) (h0 : -2147483648 ≤ c) (h1 : c < 2147483648) : ∃ a b k d, SpanIs c a b k d ∧ Tells c k d := by
  by_cases h : ∃ i, Holds c i
  · obtain ⟨i, hi⟩ := h
    refine ⟨(spanAt i).1, (spanAt i).2.1, (spanAt i).2.2.1, (spanAt i).2.2.2, fun w hv => (spanOf_any c w hv).mono ?_, span_tells hi⟩
    rintro e w' ⟨⟨j, hj, rfl⟩ | ⟨hf, rfl⟩, hb⟩
    · rw [holds_one hi hj]; exact ⟨rfl, hb⟩
    · obtain ⟨x, y, z⟩ := hi
      have := hf i x
      omega
  · refine ⟨0, 0, 0, 0, fun w hv => (spanOf_any c w hv).mono ?_, ?_⟩
    · rintro e w' ⟨⟨j, hj, rfl⟩ | ⟨hf, rfl⟩, hb⟩
      · exact absurd ⟨j, hj⟩ h
      · exact ⟨rfl, hb⟩
    · have hf : Free c := fun i hi => by
        rcases Int.lt_or_le c (spanAt i).1 with x | x
        · exact .inl x
        · rcases Int.lt_or_le (spanAt i).2.1 c with y | y
          · exact .inr y
          · exact absurd ⟨i, hi, x, y⟩ h
      obtain ⟨a, b, e, f⟩ := free_tells hf h0 h1
      exact .inr (.inr (.inr (.inr (.inr ⟨rfl, a, by rw [b]; simp, e, f, by omega, by omega⟩))))
theorem span_wide (c : Int) (h0 : 65281 ≤ c) (h1 : c ≤ 65374) : ∃ a b d, SpanIs c a b 4 d := by
  have hi : Holds c 24 := ⟨by omega, h0, h1⟩
  refine ⟨65281, 65374, 0, fun w hv => (spanOf_any c w hv).mono ?_⟩
  rintro e w' ⟨⟨j, hj, rfl⟩ | ⟨hf, rfl⟩, hb⟩
  · rw [← holds_one hi hj]; exact ⟨rfl, hb⟩
  · obtain ⟨x, y, z⟩ := hi
    have := hf 24 x
    omega

def TellPostJ (I : List Int → World → Prop) (acc : List Int) (c : Int) (e : Ending) (w' : World) : Prop :=
  (Barred c ∧ e = .returned (.bool false) ∧ I acc w') ∨ (¬ Barred c ∧ e = .returned (.bool true) ∧ I (acc ++ mapTo c) w')
/-- What is asked of a closure that is handed code points: something of the world that new memory leaves as it is, and that a call takes one further. -/
structure Takes (f : Nat) (p : Addr) (I : List Int → World → Prop) : Prop where
  carry : ∀ acc w w', I acc w → Below w.heap.size w w' → I acc w'
  vars : ∀ acc w, I acc w → Vars w
  call : ∀ acc x w, I acc w → acc.length ≤ 2990 → Calls Tryz.prog f #[.int .i32 x, .pointer (some p)] w fun e w' => e = .returned (.tuple #[]) ∧ I (acc ++ [x]) w'

set_option maxHeartbeats 1000000 in
set_option maxRecDepth 100000 in
theorem tell_flat_fold (p : Addr) (I : List Int → World → Prop) (T : Takes 63 p I) (c : Int) (acc : List Int) (w : World) (hi : I acc w) (hl : acc.length ≤ 2900) (h0 : -2147483648 ≤ c) (h1 : c < 2147483648) (hn : ¬ (65281 ≤ c ∧ c ≤ 65374)) :
    Calls Tryz.prog 65 #[.int .i32 c, .func (.func 63) #[] #[.pointer (some p)]] w (TellPostJ I acc c) := by
  obtain ⟨a, b, k, d, hs, ht⟩ := span_is c h0 h1
  have HT := Lib.hid T
  have HS := Lib.hid hs
  have HI := Lib.hid hi
  clear T hs hi
  rcases ht with ⟨rfl, hb⟩ | ⟨rfl, hb, hm⟩ | ⟨rfl, hb, hm⟩ | ⟨_, hx⟩ | ⟨rfl, hb, hm⟩ | ⟨rfl, hb, hm, hc0, hc1, hd0, hd1⟩
  · have HBd := Lib.hid hb
    clear hb
    go_enter Tryz.func65, Tryz.ntmps65
    go_wp2_with (first
      | (go_at_call 91; refine (HS.out _ (HT.out.vars _ _ HI.out)).mono ?_; rintro e w1 ⟨rfl, hb⟩; have HI1 := Lib.hid (HT.out.carry _ _ _ (HT.out.carry _ _ _ HI.out hb) ((Below.refl _ _).alloc (Nat.le_refl _) (.cells #[.int .i32 a, .int .i32 b, .int .i64 1, .int .i32 d] 136))); clear hb))
    go_ret
    exact .inl ⟨HBd.out, rfl, HI1.out⟩
  · have HBd := Lib.hid hb
    have HM := Lib.hid hm
    clear hb hm
    go_enter Tryz.func65, Tryz.ntmps65
    go_wp2_with (first
      | (go_at_call 91; refine (HS.out _ (HT.out.vars _ _ HI.out)).mono ?_; rintro e w1 ⟨rfl, hb⟩; have HI1 := Lib.hid (HT.out.carry _ _ _ (HT.out.carry _ _ _ HI.out hb) ((Below.refl _ _).alloc (Nat.le_refl _) (.cells #[.int .i32 a, .int .i32 b, .int .i64 2, .int .i32 d] 136))); clear hb))
    go_ret
    exact .inr ⟨HBd.out, rfl, by rw [HM.out, List.append_nil]; exact HI1.out⟩
  · have HBd := Lib.hid hb
    have HM := Lib.hid hm
    clear hb hm
    go_enter Tryz.func65, Tryz.ntmps65
    go_wp2_with (first
      | (go_at_call 91; refine (HS.out _ (HT.out.vars _ _ HI.out)).mono ?_; rintro e w1 ⟨rfl, hb⟩; have HI1 := Lib.hid (HT.out.carry _ _ _ (HT.out.carry _ _ _ HI.out hb) ((Below.refl _ _).alloc (Nat.le_refl _) (.cells #[.int .i32 a, .int .i32 b, .int .i64 3, .int .i32 d] 136))); clear hb)
      | (go_at_call 63; refine (HT.out.call acc _ _ HI1.out (by omega)).mono ?_; rintro e w2 ⟨rfl, hi2⟩; have HI2 := Lib.hid hi2; clear hi2))
    go_ret
    exact .inr ⟨HBd.out, rfl, by rw [HM.out]; exact HI2.out⟩
  · omega
  · have HBd := Lib.hid hb
    have HM := Lib.hid hm
    clear hb hm
    go_enter Tryz.func65, Tryz.ntmps65
    go_wp2_with (first
      | (go_at_call 91; refine (HS.out _ (HT.out.vars _ _ HI.out)).mono ?_; rintro e w1 ⟨rfl, hb⟩; have HI1 := Lib.hid (HT.out.carry _ _ _ (HT.out.carry _ _ _ HI.out hb) ((Below.refl _ _).alloc (Nat.le_refl _) (.cells #[.int .i32 a, .int .i32 b, .int .i64 5, .int .i32 d] 136))); clear hb)
      | (go_at_call 63; refine (HT.out.call (acc ++ [115]) _ _ HI2.out (by simp; omega)).mono ?_; rintro e w3 ⟨rfl, hi3⟩; have HI3 := Lib.hid hi3; clear hi3)
      | (go_at_call 63; refine (HT.out.call acc _ _ HI1.out (by omega)).mono ?_; rintro e w2 ⟨rfl, hi2⟩; have HI2 := Lib.hid hi2; clear hi2))
    go_ret
    exact .inr ⟨HBd.out, rfl, by rw [HM.out]; have := HI3.out; rw [List.append_assoc] at this; exact this⟩
  · have HBd := Lib.hid hb
    have HM := Lib.hid hm
    clear hb hm
    go_enter Tryz.func65, Tryz.ntmps65
    go_wp2_with (first
      | (go_at_call 91; refine (HS.out _ (HT.out.vars _ _ HI.out)).mono ?_; rintro e w1 ⟨rfl, hb⟩; have HI1 := Lib.hid (HT.out.carry _ _ _ (HT.out.carry _ _ _ HI.out hb) ((Below.refl _ _).alloc (Nat.le_refl _) (.cells #[.int .i32 a, .int .i32 b, .int .i64 0, .int .i32 d] 136))); clear hb)
      | (go_at_call 63; refine (HT.out.call acc _ _ HI1.out (by omega)).mono ?_; rintro e w2 ⟨rfl, hi2⟩; have HI2 := Lib.hid hi2; clear hi2))
    go_ret
    exact .inr ⟨HBd.out, rfl, by rw [HM.out]; exact HI2.out⟩

set_option maxHeartbeats 1000000 in
set_option maxRecDepth 100000 in
theorem tell_fold (p : Addr) (I : List Int → World → Prop) (T : Takes 63 p I) (c : Int) (acc : List Int) (w : World) (hi : I acc w) (hl : acc.length ≤ 2900) (h0 : -2147483648 ≤ c) (h1 : c < 2147483648) :
    Calls Tryz.prog 65 #[.int .i32 c, .func (.func 63) #[] #[.pointer (some p)]] w (TellPostJ I acc c) := by
  by_cases hn : 65281 ≤ c ∧ c ≤ 65374
  · obtain ⟨a, b, d, hs⟩ := span_wide c hn.1 hn.2
    obtain ⟨hw1, hw2, hw3⟩ := wide_back hn.1 hn.2
    have HT := Lib.hid T
    have HS := Lib.hid hs
    have HI := Lib.hid hi
    have HW := Lib.hid (And.intro hw1 (And.intro hw2 hw3))
    clear T hs hi hw1 hw2 hw3
    obtain ⟨n1, n2⟩ := hn
    go_enter Tryz.func65, Tryz.ntmps65
    go_wp2_with (first
      | (go_at_call 91; refine (HS.out _ (HT.out.vars _ _ HI.out)).mono ?_; rintro e w1 ⟨rfl, hb⟩; have HI1 := Lib.hid (HT.out.carry _ _ _ (HT.out.carry _ _ _ HI.out hb) ((Below.refl _ _).alloc (Nat.le_refl _) (.cells #[.int .i32 a, .int .i32 b, .int .i64 4, .int .i32 d] 136))); clear hb)
      | (go_at_call 65; refine (tell_flat_fold p I HT.out (c - 65248) acc _ HI1.out hl (by omega) (by omega) (by omega)).mono ?_
         rintro e w2 (⟨hb, _⟩ | ⟨_, rfl, hi2⟩)
         · exact absurd hb HW.out.2.1
         have HI2 := Lib.hid hi2; clear hi2))
    go_ret
    exact .inr ⟨HW.out.1, rfl, by rw [← HW.out.2.2]; exact HI2.out⟩
  · exact tell_flat_fold p I T c acc w hi hl h0 h1 hn
end Go.Proofs.YtfaieldafoeaiaaGreatDoor

/-
  pair: what a letter and a mark make.
-/
namespace Go.Proofs.YtfaieldafoeaiaaGreatDoor
open Go.RowKit

theorem index_marks : ∀ k, k < 7 → ∀ W, Sem.run Tryz.prog (Instr.index 150 (.agg #[.int .i32 768, .int .i32 769, .int .i32 770, .int .i32 771, .int .i32 776, .int .i32 778, .int .i32 807]) (.int .i64 (k : Nat))) W = .ok (.int .i32 (markTab.getD k 0)) W := by
  intro k hk W
  match k, hk with
  | 0, _ => show Sem.run _ _ W = _; kernel_rfl
  | 1, _ => show Sem.run _ _ W = _; kernel_rfl
  | 2, _ => show Sem.run _ _ W = _; kernel_rfl
  | 3, _ => show Sem.run _ _ W = _; kernel_rfl
  | 4, _ => show Sem.run _ _ W = _; kernel_rfl
  | 5, _ => show Sem.run _ _ W = _; kernel_rfl
  | 6, _ => show Sem.run _ _ W = _; kernel_rfl
theorem index_letters : ∀ k, k < 8 → ∀ W, Sem.run Tryz.prog (Instr.index 151 (.agg #[.int .i32 97, .int .i32 99, .int .i32 101, .int .i32 105, .int .i32 110, .int .i32 111, .int .i32 117, .int .i32 121]) (.int .i64 (k : Nat))) W = .ok (.int .i32 (letterTab.getD k 0)) W := by
  intro k hk W
  match k, hk with
  | 0, _ => show Sem.run _ _ W = _; kernel_rfl
  | 1, _ => show Sem.run _ _ W = _; kernel_rfl
  | 2, _ => show Sem.run _ _ W = _; kernel_rfl
  | 3, _ => show Sem.run _ _ W = _; kernel_rfl
  | 4, _ => show Sem.run _ _ W = _; kernel_rfl
  | 5, _ => show Sem.run _ _ W = _; kernel_rfl
  | 6, _ => show Sem.run _ _ W = _; kernel_rfl
  | 7, _ => show Sem.run _ _ W = _; kernel_rfl

set_option maxHeartbeats 1000000 in
set_option maxRecDepth 100000 in
theorem pair_any (a m : Int) (w : World) (hv : Vars w) : Calls Tryz.prog 90 #[.int .i32 a, .int .i32 m] w fun e w' => e = .returned (.int .i32 (madeOf a m)) ∧ Below w.heap.size w w' := by
  have HV := Lib.hid hv
  have m0 : w.cell? ⟨1, 0, none⟩ = some (.int .i32 768) := hv.marks 0 (by omega)
  have m1 : w.cell? ⟨1, 1, none⟩ = some (.int .i32 769) := hv.marks 1 (by omega)
  have m2 : w.cell? ⟨1, 2, none⟩ = some (.int .i32 770) := hv.marks 2 (by omega)
  have m3 : w.cell? ⟨1, 3, none⟩ = some (.int .i32 771) := hv.marks 3 (by omega)
  have m4 : w.cell? ⟨1, 4, none⟩ = some (.int .i32 776) := hv.marks 4 (by omega)
  have m5 : w.cell? ⟨1, 5, none⟩ = some (.int .i32 778) := hv.marks 5 (by omega)
  have m6 : w.cell? ⟨1, 6, none⟩ = some (.int .i32 807) := hv.marks 6 (by omega)
  clear hv
  go_enter Tryz.func90, Tryz.ntmps90
  go_wp2
  clear m0 m1 m2 m3 m4 m5 m6
  go_loopw [4, 10] (fun v4 i wr => ∃ k : Nat, k ≤ 7 ∧ v4 = .int .i32 0 ∧ i = .int .i64 k ∧ Below w.heap.size w wr ∧ ∀ j, j < k → ∀ r, r < 8 → ¬ (markTab.getD j 0 = m ∧ letterTab.getD r 0 = a)) (fun _ i _ => 7 - (intOf i).toNat)
  case atStart => exact ⟨0, by omega, rfl, rfl, Below.refl _ _, fun j hj => by omega⟩
  case round =>
    obtain ⟨k, hk, rfl, rfl, hb, hno⟩ := hrel
    have HN := Lib.hid hno
    have HB := Lib.hid hb
    have hvr := HV.out.below hb
    clear hno hb
    by_cases hlt : k < 7
    · have hix := index_marks k hlt
      obtain ⟨x, hx⟩ : ∃ x, markTab.getD k 0 = x := ⟨_, rfl⟩
      rw [hx] at hix
      by_cases hxm : x = m
      · subst hxm
        have HX := Lib.hid hx
        clear hx
        have n0 : wr.cell? ⟨2, 0, none⟩ = some (.int .i32 97) := hvr.letters 0 (by omega)
        have n1 : wr.cell? ⟨2, 1, none⟩ = some (.int .i32 99) := hvr.letters 1 (by omega)
        have n2 : wr.cell? ⟨2, 2, none⟩ = some (.int .i32 101) := hvr.letters 2 (by omega)
        have n3 : wr.cell? ⟨2, 3, none⟩ = some (.int .i32 105) := hvr.letters 3 (by omega)
        have n4 : wr.cell? ⟨2, 4, none⟩ = some (.int .i32 110) := hvr.letters 4 (by omega)
        have n5 : wr.cell? ⟨2, 5, none⟩ = some (.int .i32 111) := hvr.letters 5 (by omega)
        have n6 : wr.cell? ⟨2, 6, none⟩ = some (.int .i32 117) := hvr.letters 6 (by omega)
        have n7 : wr.cell? ⟨2, 7, none⟩ = some (.int .i32 121) := hvr.letters 7 (by omega)
        have HR := Lib.hid hvr
        clear hvr
        go_wp2
        clear n0 n1 n2 n3 n4 n5 n6 n7
        go_loopw [4, 18] (fun v4 i ws => ∃ r : Nat, r ≤ 8 ∧ v4 = .int .i32 0 ∧ i = .int .i64 r ∧ Below wr.heap.size wr ws ∧ ∀ j, j < r → letterTab.getD j 0 ≠ a) (fun _ i _ => 8 - (intOf i).toNat)
        case atStart => exact ⟨0, by omega, rfl, rfl, Below.refl _ _, fun j hj => by omega⟩
        case round =>
          obtain ⟨r, hr, rfl, rfl, hb, hno⟩ := hrel
          have HN2 := Lib.hid hno
          have HB2 := Lib.hid hb
          have hvr := HR.out.below hb
          clear hno hb
          by_cases hlr : r < 8
          · have hiy := index_letters r hlr
            obtain ⟨y, hy⟩ : ∃ y, letterTab.getD r 0 = y := ⟨_, rfl⟩
            rw [hy] at hiy
            by_cases hya : y = a
            · subst hya
              have hmk := hvr.made r k hlr hlt
              rw [made_at r hlr k hlt, hy, HX.out] at hmk
              clear hy hvr
              go_wp2
              go_ret
              exact ⟨rfl, HB.out.trans (HB2.out.mono HB.out.size)⟩
            · have HY := Lib.hid hy
              clear hy hvr
              go_wp2
              refine ⟨⟨r + 1, by omega, rfl, by go_num, HB2.out, fun j hj => ?_⟩, by simp [intOf]; omega⟩
              rcases Nat.lt_or_ge j r with h | h
              · exact HN2.out j h
              · obtain rfl : j = r := by omega
                rw [HY.out]; exact hya
          · clear hvr
            go_wp2
            refine ⟨⟨k + 1, by omega, rfl, by go_num, HB.out.trans (HB2.out.mono HB.out.size), fun j hj i hi => ?_⟩, by simp [intOf]; omega⟩
            rcases Nat.lt_or_ge j k with h | h
            · exact HN.out j h i hi
            · exact fun e => HN2.out i (by omega) e.2
      · have HX := Lib.hid hx
        clear hx hvr
        go_wp2
        refine ⟨⟨k + 1, by omega, rfl, by go_num, HB.out, fun j hj i hi => ?_⟩, by simp [intOf]; omega⟩
        rcases Nat.lt_or_ge j k with h | h
        · exact HN.out j h i hi
        · obtain rfl : j = k := by omega
          rw [HX.out]; exact fun e => hxm e.1
    · clear hvr
      go_wp2
      go_ret
      exact ⟨by rw [made_none (fun j hj i hi => HN.out j (by omega) i hi)]; rfl, HB.out⟩
end Go.Proofs.YtfaieldafoeaiaaGreatDoor

/-
  add: a code point behind a list that is composed.
-/
namespace Go.Proofs.YtfaieldafoeaiaaGreatDoor
open Go.RowKit

def AddPost (B : Nat) (l : List Int) (x : Int) (w : World) (e : Ending) (w' : World) : Prop := ∃ v, e = .returned v ∧ RowN B w' v (cadd l x) ∧ Below B w w'
theorem pair_is {a m z : Int} (h : madeOf a m = z) (w : World) (hv : Vars w) : Calls Tryz.prog 90 #[.int .i32 a, .int .i32 m] w fun e w' => e = .returned (.int .i32 z) ∧ Below w.heap.size w w' := h ▸ pair_any a m w hv
theorem cadd_keep {t : List Int} {a x : Int} (h : madeOf a x = 0) : cadd (t ++ [a]) x = (t ++ [a]) ++ [x] := by unfold cadd; simp [h]
theorem cadd_pair {t : List Int} {a x : Int} (h : madeOf a x ≠ 0) : cadd (t ++ [a]) x = t ++ [madeOf a x] := by unfold cadd; simp [h]

set_option maxHeartbeats 1000000 in
set_option maxRecDepth 100000 in
theorem add_none (B : Nat) (v : Value) (x : Int) (w : World) (hrow : RowN B w v []) (hB : B ≤ w.heap.size) :
    Calls Tryz.prog 64 #[v, .int .i32 x] w (AddPost B [] x w) := by
  obtain ⟨A, cap, rfl⟩ : ∃ A cap, v = .slice A 0 cap := by
    rcases hrow.2 with ⟨h, _⟩ | ⟨g, cap, cur, h, _⟩
    · exact ⟨_, _, h⟩
    · exact ⟨_, _, h⟩
  have HR := Lib.hid hrow
  clear hrow
  go_enter Tryz.func64, Tryz.ntmps64
  go_wp2_with (at_builtin
               refine append_from rfl (.tmp 25) (.tmp 27) rfl B _ [] (some ⟨w.heap.size, 0, none⟩) 1 1 [x] rfl rfl (HR.out.below ((Below.refl _ _).alloc (Nat.le_refl _) _)) (runes_one w x) rfl (fun h => by cases h) (by simp) (by simp; omega) ?_
               intro v' w' hr' hb'
               have HP := Lib.hid (And.intro hr' (((Below.refl B w).alloc hB _).trans hb'))
               clear hr' hb')
  go_ret
  exact ⟨_, rfl, HP.out.1, HP.out.2⟩

set_option maxHeartbeats 1000000 in
set_option maxRecDepth 100000 in
theorem add_some (B : Nat) (v : Value) (t : List Int) (a x : Int) (w : World) (hv : Vars w) (hrow : RowN B w v (t ++ [a])) (hB : B ≤ w.heap.size) (hl : t.length ≤ 3000) :
    Calls Tryz.prog 64 #[v, .int .i32 x] w (AddPost B (t ++ [a]) x w) := by
  obtain ⟨g, cap, rfl⟩ : ∃ g cap, v = .slice (some ⟨g, 0, none⟩) (t.length + 1) cap := by
    rcases hrow.2 with ⟨h, h0⟩ | ⟨g, cap, cur, h, _⟩
    · simp at h0
    · exact ⟨g, cap, by simpa using h⟩
  have hrow' : w.ownsRow B 21 1 (.slice (some ⟨g, 0, none⟩) (t.length + 1) cap) (t.length + 1) ((t ++ [a]).map (Value.int .i32)) := by
    have := hrow
    unfold RowN at this
    simpa using this
  have hc : w.cell? ⟨g, t.length, none⟩ = some (.int .i32 a) := by
    rw [hrow'.cellAt t.length (by omega)]
    simp
  have hg : g < w.heap.size ∧ B ≤ g := by
    have := hrow'.lt g rfl
    omega
  have HV := Lib.hid hv
  have HR := Lib.hid hrow'
  have HN0 := Lib.hid hrow
  clear hv hrow hrow'
  by_cases hz : madeOf a x = 0
  · have HZ := Lib.hid hz
    clear hz
    go_enter Tryz.func64, Tryz.ntmps64
    go_wp2_with (first
      | (go_at_call 90; refine (pair_is HZ.out _ HV.out).mono ?_; rintro e w1 ⟨rfl, hb⟩; have HB := Lib.hid hb; clear hb)
      | (at_builtin
         refine append_from rfl (.tmp 25) (.tmp 27) rfl B _ (t ++ [a]) (some ⟨w1.heap.size, 0, none⟩) 1 1 [x] rfl rfl ?h1 (runes_one w1 x) rfl (fun h => by cases h) ?h2 ?h3 ?_
         case h1 => exact HN0.out.below (HB.out.alloc HB.out.size (.cells #[.int .i32 x] 21))
         case h2 => simp; omega
         case h3 => have := HB.out.size; simp; omega
         intro v' w' hr' hb'
         have HP := Lib.hid (And.intro hr' (((HB.out.mono hB).alloc (Nat.le_trans hB HB.out.size) _).trans hb'))
         clear hr' hb'))
    go_ret
    exact ⟨_, rfl, by rw [cadd_keep HZ.out]; exact HP.out.1, HP.out.2⟩
  · obtain ⟨z, hz1⟩ : ∃ z, madeOf a x = z := ⟨_, rfl⟩
    have HN := Lib.hid hz
    rw [hz1] at hz
    have HZ := Lib.hid hz1
    clear hz1
    go_enter Tryz.func64, Tryz.ntmps64
    go_wp2_with (first
      | (go_at_call 90; refine (pair_is HZ.out _ HV.out).mono ?_; rintro e w1 ⟨rfl, hb⟩
         have hro := own_below HR.out hb
         have hc1 := (hb.cell (p := ⟨g, t.length, none⟩) hg.1).trans hc
         have hf1 := hro.frozenAt t.length
         have HO := Lib.hid hro
         have HB := Lib.hid hb; clear hb hro hc))
    go_ret
    obtain ⟨h1, h2⟩ := HO.out.stored t.length (.int .i32 z)
    refine ⟨_, rfl, ?_, ?_⟩
    · rw [cadd_pair HN.out, HZ.out]
      unfold RowN
      have : ((t ++ [a]).map (Value.int .i32)).set t.length (.int .i32 z) = (t ++ [z]).map (Value.int .i32) := by
        rw [List.map_append, List.map_append, List.set_append_right _ _ (by simp)]
        simp
      rw [this] at h1
      simpa using h1
    · exact (HB.out.mono hB).setCell (by simpa using hg.2) _
theorem add_any (B : Nat) (v : Value) (l : List Int) (x : Int) (w : World) (hv : Vars w) (hrow : RowN B w v l) (hB : B ≤ w.heap.size) (hl : l.length ≤ 3000) :
    Calls Tryz.prog 64 #[v, .int .i32 x] w (AddPost B l x w) := by
  rcases List.eq_nil_or_concat l with rfl | ⟨t, a, rfl⟩
  · exact add_none B v x w hrow hB
  · rw [List.concat_eq_append] at hrow hl ⊢
    exact add_some B v t a x w hv hrow hB (by simp at hl; omega)
end Go.Proofs.YtfaieldafoeaiaaGreatDoor

/-
  The closures of Map and of Fold: a slice in a box that grows.
-/
namespace Go.Proofs.YtfaieldafoeaiaaGreatDoor
open Go.RowKit

/-- A box in block pb, made since w0, holds a slice of the call's own, behind it, that reads as g of what was handed on. -/
structure BoxI (w0 : World) (pb : Nat) (g : List Int → List Int) (acc : List Int) (w : World) : Prop where
  vars : Vars w
  old : Below w0.heap.size w0 w
  ge : w0.heap.size ≤ pb
  lt : pb + 1 ≤ w.heap.size
  nil : acc = [] → w.heap[pb]? = some (.cells #[.slice none 0 0] 22 (0, 0))
  box : ∃ v, w.heap[pb]? = some (.cells #[v] 22 (0, 0)) ∧ RowN (pb + 1) w v (g acc)
theorem BoxI.carry {w0 : World} {pb : Nat} {g : List Int → List Int} {acc : List Int} {w w' : World} (h : BoxI w0 pb g acc w) (hb : Below w.heap.size w w') : BoxI w0 pb g acc w' := by
  obtain ⟨v, h1, h2⟩ := h.box
  exact ⟨h.vars.below hb, h.old.trans (hb.mono h.old.size), h.ge, Nat.le_trans h.lt hb.size, fun e => (hb.block pb h.lt).trans (h.nil e), v, (hb.block pb h.lt).trans h1, h2.below hb⟩
/-- Behind the store of a new slice into the box. -/
theorem BoxI.put {w0 : World} {pb : Nat} {g : List Int → List Int} {acc acc' : List Int} {w w' : World} {v' : Value} (h : BoxI w0 pb g acc w) (hv0 : Vars w0) (hb : Below (pb + 1) w w') (hr : RowN (pb + 1) w' v' (g acc')) (hne : acc' ≠ []) :
    BoxI w0 pb g acc' (w'.setCell ⟨pb, 0, none⟩ v') := by
  obtain ⟨v, h1, h2⟩ := h.box
  have hge := h.ge
  have hb0 : Below w0.heap.size w w' := hb.mono (by omega)
  have hb1 : Below w0.heap.size w (w'.setCell ⟨pb, 0, none⟩ v') := hb0.setCell (by simpa using hge) _
  have hp : w'.heap[pb]? = some (.cells #[v] 22 (0, 0)) := (hb.block pb (by omega)).trans h1
  refine ⟨h.vars.belowB hv0 hb1, h.old.trans hb1, hge, ?_, fun e => absurd e hne, v', ?_, ?_⟩
  · have := hb.size; have := h.lt; simp; omega
  · have := heap_setCell_same w' pb 0 #[v] 22 v' hp
    simpa using this
  · exact ownsRow_setCell_below hr (by simp) v'
theorem BoxI.cell {w0 : World} {pb : Nat} {g : List Int → List Int} {acc : List Int} {w : World} (h : BoxI w0 pb g acc w) : ∃ v, w.cell? ⟨pb, 0, none⟩ = some v ∧ w.frozen? ⟨pb, 0, none⟩ = false ∧ RowN (pb + 1) w v (g acc) := by
  obtain ⟨v, h1, h2⟩ := h.box
  obtain ⟨a, b⟩ := spot_at h1 0 rfl
  exact ⟨v, a, b, h2⟩

theorem RowN.shape {B : Nat} {w : World} {v : Value} {l : List Int} (h : RowN B w v l) : ∃ A n c, v = .slice A n c := by
  rcases h.2 with ⟨h, _⟩ | ⟨g, cap, cur, h, _⟩
  · exact ⟨_, _, _, h⟩
  · exact ⟨_, _, _, h⟩

theorem comp_add (acc : List Int) (x : Int) : cadd (comp acc) x = comp (acc ++ [x]) := (comp_snoc x acc.length acc (Nat.le_refl _)).symm

set_option maxHeartbeats 1000000 in
set_option maxRecDepth 100000 in
theorem fold1_any (w0 : World) (hv0 : Vars w0) (pb : Nat) (acc : List Int) (x : Int) (w : World) (h : BoxI w0 pb comp acc w) (hl : acc.length ≤ 2990) :
    Calls Tryz.prog 63 #[.int .i32 x, .pointer (some ⟨pb, 0, none⟩)] w fun e w' => e = .returned (.tuple #[]) ∧ BoxI w0 pb comp (acc ++ [x]) w' := by
  obtain ⟨v, hc, hf, hr⟩ := h.cell
  have hlt := h.lt
  have hl2 : (comp acc).length ≤ 3000 := Nat.le_trans (comp_length acc.length acc (Nat.le_refl _)) (by omega)
  have HI := Lib.hid h
  have HV := Lib.hid hv0
  have HR := Lib.hid hr
  have HL := Lib.hid hl2
  clear h hv0 hr hl2
  go_enter Tryz.func63, Tryz.ntmps63
  go_wp2_with (go_at_call 64; refine (add_any (pb + 1) v (comp acc) x _ HI.out.vars HR.out hlt HL.out).mono ?_
               rintro e w' ⟨v', rfl, hr', hbb⟩
               obtain ⟨A', n', c', hvv⟩ := hr'.shape
               subst hvv
               have hc' := (hbb.cell (p := ⟨pb, 0, none⟩) (Nat.lt_succ_self pb)).trans hc
               have hf' := (hbb.frozen (p := ⟨pb, 0, none⟩) (Nat.lt_succ_self pb)).trans hf
               rw [comp_add] at hr'
               have HP := Lib.hid (And.intro hr' hbb)
               clear hr' hbb hc hf)
  go_end0
  exact ⟨rfl, HI.out.put HV.out HP.out.2 HP.out.1 (by simp)⟩
theorem takes_fold (w0 : World) (hv0 : Vars w0) (pb : Nat) : Takes 63 ⟨pb, 0, none⟩ (BoxI w0 pb comp) :=
  ⟨fun _ _ _ h hb => h.carry hb, fun _ _ h => h.vars, fun acc x w h hl => fold1_any w0 hv0 pb acc x w h hl⟩
end Go.Proofs.YtfaieldafoeaiaaGreatDoor

/-
  errors.is and errors.Is, of a chain that ends in a number, against a number.
-/
namespace Go.Proofs.YtfaieldafoeaiaaGreatDoor
open Go.RowKit Go.Extern.Stop Go.Stop Go.Extern

theorem eql_in (P : Program) (w : World) (d : Nat) {ti tn : TypeId} {ms : Array (String × TypeId)} {i : TypeInfo} {k : IntKind} (a b : Int)
    (hi : P.underlying ti = some (.interface ms)) (hn : P.underlying tn = some (.int k)) (hinfo : P.info? tn = some i) (hcomp : i.comparable = true) :
    (Op.equalIn (d + 2) ti (.iface tn (.int k a)) (.iface tn (.int k b))).run P w = .ok (a == b) w := by
  simp [Op.equalIn, run_underlying hi, run_underlying hn, typeInfo, hinfo, hcomp]
/-- Two numbers of one type, as values of an interface. -/
theorem eql_numbers (a b : Int) (w : World) : (binOp .eql 25 (.iface 30 (.int .i64 a)) (.iface 30 (.int .i64 b))).run Tryz.prog w = .ok (.bool (a == b)) w := by
  obtain ⟨i, hi, hc⟩ := Option.map_eq_some_iff.1 (show (Tryz.prog.info? 30).map (·.comparable) = some true by kernel_rfl)
  simp only [binOp]
  simp [Op.equal, Op.maxDepth, eql_in Tryz.prog w 9998 a b Tryz.underlying25 Tryz.underlying30 hi hc]
theorem eql_types (p : Addr) (b : Int) (w : World) : (binOp .eql 25 (.iface 108 (.pointer (some p))) (.iface 30 (.int .i64 b))).run Tryz.prog w = .ok (.bool false) w :=
  run_eql_iface_types _ _ _ _ Tryz.underlying25 (by decide) w
theorem comparableE (w : World) : (callFunc 130 #[.agg #[.pointer (some ⟨6, 30, none⟩)]]).run Tryz.prog w = .ok (.value (.bool true)) w := by kernel_rfl

def IsRel (w : World) (n : Int) (k : Nat) (p : Value) (wr : World) : Prop := wr = w ∧ ∃ cs, cs.length = k ∧ Chain w cs (some n) p

set_option maxHeartbeats 4000000 in
set_option maxRecDepth 100000 in
theorem is1_any (cs : List ByteArray) (n m : Int) (u : TypeId) (x : Value) (w : World) (hc : Chain w cs (some n) (.iface u x)) :
    Calls Tryz.prog 38 #[.iface u x, .iface 30 (.int .i64 m), .bool true] w fun e w' => e = .returned (.bool (n == m)) ∧ w = w' := by
  have HC := Lib.hid hc
  clear hc
  have mU := methodUnwrap
  have isE := assertIsE
  have isF := assertIsF
  have o1E := assertOneE
  have o1F := assertOneF
  have omE := assertManyE
  have eN := eql_numbers
  have eT := eql_types
  go_enter Tryz.func38, Tryz.ntmps38
  go_wp2
  go_loopg [0] cs.length (fun k p wr => IsRel w n k p wr)
  case atStart => exact ⟨rfl, cs, rfl, HC.out⟩
  case round =>
    obtain ⟨rfl, ds, hk, hch⟩ := hrel
    cases ds with
    | nil =>
      obtain rfl : _ = Value.iface 30 (.int .i64 n) := hch
      clear hk
      by_cases hnm : (n == m) = true
      · go_wp2
        go_ret
        exact ⟨by rw [hnm]; rfl, rfl⟩
      · have hf : (n == m) = false := by simpa using hnm
        clear hnm
        go_wp2
        go_ret
        exact ⟨by rw [hf]; rfl, rfl⟩
    | cons d ds =>
      obtain ⟨b, v', rfl, hlt, hc0, hc1, hrest⟩ := hch
      obtain ⟨u2, x2, rfl⟩ := hrest.held
      have HR := Lib.hid hrest
      have HK := Lib.hid hk
      clear hrest hk
      go_wp2_with (go_at_call 140; refine (unwrap_at b _ _ hc1).mono ?_; rintro e w' ⟨rfl, rfl⟩)
      go_roundg ds.length
      case measure => rw [← HK.out]; simp
      case rel => exact ⟨rfl, ds, rfl, HR.out⟩

set_option maxHeartbeats 4000000 in
set_option maxRecDepth 100000 in
theorem is_any (cs : List ByteArray) (n m : Int) (u : TypeId) (x : Value) (w : World) (hc : Chain w cs (some n) (.iface u x)) :
    Calls Tryz.prog 13 #[.iface u x, .iface 30 (.int .i64 m)] w fun e w' => e = .returned (.bool (n == m)) ∧ w = w' := by
  have HC := Lib.hid hc
  clear hc
  have x25 := @run_callFunc_extern Tryz.prog 37 _ ReflectliteType.typeOf Tryz.func37 (by kernel_rfl) (by kernel_rfl) (by kernel_rfl) (by kernel_rfl)
  have tOE := typeOfE
  have mC := methodComparable
  have cE := comparableE
  go_enter Tryz.func13, Tryz.ntmps13
  go_wp2_with (go_at_call 38; refine (is1_any cs n m u x _ HC.out).mono ?_; rintro e w' ⟨rfl, rfl⟩)
  go_ret
  exact ⟨rfl, rfl⟩
end Go.Proofs.YtfaieldafoeaiaaGreatDoor

/-
  What the program's Map, Compose and Fold of layer 5 are held against; the numbers that folding tells.
-/
namespace Go.Proofs.YtfaieldafoeaiaaGreatDoor
open Go.RowKit

theorem bnext {w a b : World} (h : Below w.heap.size w a) (k : Below a.heap.size a b) : Below w.heap.size w b := h.trans (k.mono h.size)
def Yes (w : World) (e : Ending) (w' : World) : Prop := e = .returned (.bool true) ∧ Below w.heap.size w w'
def MapOk (l : List Int) (w : World) (e : Ending) (w' : World) : Prop := ∃ A c, e = .returned (.tuple #[.slice A l.length c, .bool true]) ∧ Runes w' A l ∧ Below w.heap.size w w'
def RunesPost (l : List Int) (w : World) (e : Ending) (w' : World) : Prop := ∃ A c, e = .returned (.slice A l.length c) ∧ Runes w' A l ∧ l.length ≤ c ∧ Below w.heap.size w w'
def FoldPost (o : Option (List Int)) (w : World) (e : Ending) (w' : World) : Prop := match o with
  | none => ∃ cs u x, e = .returned (.tuple #[.slice none 0 0, .iface u x]) ∧ Chain w' cs (some 2) (.iface u x) ∧ Below w.heap.size w w'
  | some l => ∃ A c, e = .returned (.tuple #[.slice A l.length c, .nilIface]) ∧ Runes w' A l ∧ (l.length ≤ c ∧ (A = none → c = 0)) ∧ Below w.heap.size w w'
/-- The numbers of a rune. -/
def R32 (c : Int) : Prop := -2147483648 ≤ c ∧ c < 2147483648
theorem mapTo_rng {c : Int} (h : ¬ Barred c) : ∀ x ∈ mapTo c, R32 x := by
  have h0 : 0 ≤ c ∧ c ≤ 1114111 := by unfold Barred at h; omega
  intro x hx
  unfold mapTo down wide at hx
  repeat' split at hx
  all_goals simp only [List.mem_cons, or_false, List.not_mem_nil] at hx
  all_goals unfold R32; omega
theorem mapAll_rng {l m : List Int} (h : mapAll l = some m) : ∀ x ∈ m, R32 x := by
  induction l generalizing m with
  | nil => simp only [mapAll, Option.some.injEq] at h; subst h; simp
  | cons c l ih =>
    unfold mapAll at h
    split at h
    · cases h
    · rename_i hb
      obtain ⟨k, hk, rfl⟩ := Option.map_eq_some_iff.1 h
      intro x hx
      rcases List.mem_append.1 hx with hx | hx
      · exact mapTo_rng hb x hx
      · exact ih hk x hx
theorem pairs_rng : ∀ p ∈ pairs, -2147483648 ≤ p.2.2 ∧ p.2.2 < 2147483648 := by decide +kernel
theorem comp_rng : ∀ (n : Nat) (l : List Int), l.length ≤ n → (∀ x ∈ l, R32 x) → ∀ x ∈ comp l, R32 x := by
  intro n
  induction n with
  | zero => intro l h hl; rw [List.eq_nil_of_length_eq_zero (l := l) (by omega)]; simp [comp]
  | succ n ih =>
    intro l h hl
    match l, h, hl with
    | [], _, _ => simp [comp]
    | [a], _, hl => simpa [comp] using hl
    | a :: b :: t, h, hl =>
      simp only [List.length_cons] at h
      by_cases e : madeOf a b = 0
      · rw [comp_keep e]
        intro x hx
        rcases List.mem_cons.1 hx with rfl | hx
        · exact hl _ (List.mem_cons_self ..)
        · exact ih (b :: t) (by simp only [List.length_cons]; omega) (fun y hy => hl y (List.mem_cons_of_mem _ hy)) x hx
      · rw [comp_pair e]
        intro x hx
        rcases List.mem_cons.1 hx with rfl | hx
        · exact pairs_rng _ (madeIn_ne e)
        · exact ih t (by omega) (fun y hy => hl y (List.mem_cons_of_mem _ (List.mem_cons_of_mem _ hy))) x hx
theorem fold_rng {l a : List Int} (h : foldL l = some a) : ∀ x ∈ a, R32 x := by
  obtain ⟨m, hm, rfl⟩ := Option.map_eq_some_iff.1 h
  exact comp_rng m.length m (Nat.le_refl _) (mapAll_rng hm)
theorem rng_app {a b : List Int} (ha : ∀ x ∈ a, R32 x) (hb : ∀ x ∈ b, R32 x) : ∀ x ∈ a ++ b, R32 x := fun x hx => (List.mem_append.1 hx).elim (ha x) (hb x)
theorem fold_length {l a : List Int} (h : foldL l = some a) : a.length ≤ 2 * l.length := by
  obtain ⟨m, hm, rfl⟩ := Option.map_eq_some_iff.1 h
  have h1 := mapAll_length hm
  have h2 := comp_length m.length m (Nat.le_refl _)
  omega
theorem same_yes (A B : Option Addr) (a b : List Int) (m n c d : Nat) (w : World) (hm : m = a.length) (hn : n = b.length) (ha : Runes w A a) (hb : Runes w B b) (hl : a.length ≤ 5000) (h : a = b) :
    Calls Tryz.prog 57 #[.slice A m c, .slice B n d] w (Yes w) := by
  subst hm; subst hn
  exact (same_any A B a b c d w ha hb hl).mono fun _ _ ⟨he, n, hw⟩ => ⟨by rw [he, show same a b = true by simp [same, h]], by rw [hw]; exact below_drewN (Below.refl _ _) _⟩
theorem runes_new (w : World) (l : List Int) (t : TypeId) : Runes (w.alloc (.cells (l.map (Value.int .i32)).toArray t)) (some ⟨w.heap.size, 0, none⟩) l := by
  intro i c hc
  refine ⟨w.heap.size, 0, rfl, by simp, ?_⟩
  rw [World.cell?_alloc_at _ _ _ _ rfl, Nat.zero_add]
  simp [hc]
end Go.Proofs.YtfaieldafoeaiaaGreatDoor

/-
  The program's Map, Compose and Fold do as the document says.
-/
namespace Go.Proofs.YtfaieldafoeaiaaGreatDoor
open Go.RowKit

theorem boxI_new (w : World) (g : List Int → List Int) (hg : g [] = []) (hv : Vars w) : BoxI w w.heap.size g [] (w.alloc (.cells #[.slice none 0 0] 22)) := by
  have hb := (Below.refl w.heap.size w).alloc (Nat.le_refl _) (.cells #[.slice none 0 0] 22)
  refine ⟨hv.below hb, hb, Nat.le_refl _, by simp, fun _ => heap_alloc_new w _, .slice none 0 0, heap_alloc_new w _, ?_⟩
  rw [hg]
  exact World.ownsRow_nil _ _ _ _
theorem RowN.reads {B : Nat} {w : World} {v : Value} {l : List Int} (h : RowN B w v l) : ∃ A c, v = .slice A l.length c ∧ Runes w A l ∧ (l.length ≤ c ∧ (A = none → c = 0)) := by
  have h' : w.ownsRow B 21 1 v l.length (l.map (Value.int .i32)) := h
  rcases h.2 with ⟨rfl, h0⟩ | ⟨g, cap, cur, rfl, hh⟩
  · obtain rfl := List.eq_nil_of_length_eq_zero h0
    exact ⟨none, 0, rfl, fun i s hs => by simp at hs, Nat.le_refl _, fun _ => rfl⟩
  · refine ⟨_, _, rfl, fun i s hs => ?_, hh.2.2.1, fun e => by cases e⟩
    have hi : i < l.length := (List.getElem?_eq_some_iff.1 hs).1
    have hc := h'.cellAt (g := g) i (by simpa using hi)
    refine ⟨g, 0, rfl, (Array.getElem?_eq_some_iff.1 hh.2.1).1, ?_⟩
    rw [Nat.zero_add, hc, List.getElem?_map, hs]; rfl

end Go.Proofs.YtfaieldafoeaiaaGreatDoor

/-
  The program's Fold does as the document says.
-/
namespace Go.Proofs.YtfaieldafoeaiaaGreatDoor
open Go.RowKit

set_option maxHeartbeats 1000000 in
set_option maxRecDepth 100000 in
theorem fold_p (A : Option Addr) (l : List Int) (cap : Nat) (w : World) (hv : Vars w) (hrg : ∀ c ∈ l, R32 c) (hr : Runes w A l) (hl : l.length ≤ 1400) :
    Calls Tryz.prog 29 #[.slice A l.length cap] w (FoldPost (foldL l) w) := by
  have hmf : ∀ (fn : Fn) (first cap : Array Value) (w : World), (Instr.makeFunc fn first cap).run Tryz.prog w = .ok (.func fn first cap) w := fun _ _ _ _ => rfl
  have HN0 := Lib.hid (boxI_new w comp rfl hv)
  have HTk := Lib.hid (takes_fold w hv w.heap.size)
  have HR := Lib.hid hr
  have HG := Lib.hid hrg
  clear hv hr hrg
  go_enter Tryz.func29, Tryz.ntmps29
  go_wp2
  go_loopw [11] (fun i wr => ∃ (k : Nat) (m : List Int), k ≤ l.length ∧ i = .int .i64 k ∧ BoxI w w.heap.size comp m wr ∧ mapAll (l.take k) = some m) (fun i _ => l.length - (intOf i).toNat)
  case atStart => exact ⟨0, [], Nat.zero_le _, rfl, HN0.out, rfl⟩
  case round =>
    obtain ⟨k, m, hk, rfl, hi, hmm⟩ := hrel
    have hml : m.length ≤ 2800 := by
      have := mapAll_length hmm
      rw [List.length_take] at this
      omega
    by_cases hlt : k < l.length
    · obtain ⟨b, off, rfl, _, hc⟩ := (HR.out.below hi.old) k l[k] (List.getElem?_eq_getElem hlt)
      have hrg := HG.out l[k] (List.getElem_mem hlt)
      have HT := Lib.hid (tell_fold ⟨w.heap.size, 0, none⟩ (BoxI w w.heap.size comp) HTk.out l[k] m wr hi (by omega) hrg.1 hrg.2)
      by_cases hb : Barred l[k]
      · have HN : Hid (foldL l = none) := by
          show foldL l = none
          unfold foldL
          rw [mapAll_bad hlt hb]; rfl
        obtain ⟨x, hx⟩ : ∃ x, l[k] = x := ⟨_, rfl⟩
        rw [hx] at hc hb HT
        have HBd := Lib.hid hb
        clear hx hb hrg hi hmm
        go_wp2_with (first
          | (go_at_call 65; (with_reducible refine HT.out.mono ?_)
             rintro e w1 (⟨_, rfl, hi⟩ | ⟨hn, _⟩)
             rotate_left
             · exact absurd HBd.out hn
             have HI := Lib.hid hi
             clear hi)
          | (go_at_call 43; refine (wrap_held _ _ _ _).mono ?_; rintro e w' ⟨rfl, rfl⟩))
        go_ret2
        rw [HN.out]
        refine ⟨[⟨#[102, 111, 108, 100]⟩], _, _, rfl, Chain.lay (w := w1) (cs := []) (o := some 2) ⟨#[102, 111, 108, 100]⟩ rfl, ?_⟩
        exact HI.out.old.alloc HI.out.old.size _
      · have HSt := Lib.hid (mapAll_step hlt hb hmm)
        obtain ⟨x, hx⟩ : ∃ x, l[k] = x := ⟨_, rfl⟩
        rw [hx] at hc hb HT HSt
        have HBd := Lib.hid hb
        clear hx hb hrg hi hmm
        go_wp2_with (go_at_call 65; (with_reducible refine HT.out.mono ?_)
                     rintro e w1 (⟨hn, _⟩ | ⟨_, rfl, hi⟩)
                     · exact absurd hn HBd.out
                     have HI := Lib.hid hi
                     clear hi)
        go_roundw
        case rel => exact ⟨k + 1, m ++ mapTo x, hlt, by go_num, HI.out, HSt.out⟩
        case measure => simp [intOf]; omega
    · have HS : Hid (foldL l = some (comp m)) := by
        show foldL l = some (comp m)
        rw [List.take_of_length_le (by omega)] at hmm
        unfold foldL
        rw [hmm]; rfl
      obtain ⟨v, hc, _, hrow⟩ := hi.cell
      obtain ⟨A1, c1, hvv, hru, hcc⟩ := hrow.reads
      subst hvv
      have HP := Lib.hid (And.intro hru (And.intro hcc hi.old))
      clear hru hcc hrow hi hmm
      go_wp2
      go_ret2
      rw [HS.out]
      exact ⟨_, _, rfl, HP.out.1, HP.out.2.1, HP.out.2.2⟩

end Go.Proofs.YtfaieldafoeaiaaGreatDoor

/-
  What the program's Encode and Decode of layer 4 are held against: their contracts, as hypotheses; and bounds on lengths.
-/
namespace Go.Proofs.YtfaieldafoeaiaaGreatDoor
open Go.RowKit

theorem tellK_log (bias : Nat) : ∀ (n q k : Nat), q < 10 ^ n → (tellK q bias k).length ≤ n + 1 := by
  intro n
  induction n with
  | zero =>
    intro q k h
    have ht := thr_pos k bias
    rw [tellK_small (by omega)]; simp
  | succ n ih =>
    intro q k h
    have ht := thr_pos k bias
    by_cases hq : q < thr k bias
    · rw [tellK_small hq]; simp
    · rw [tellK_more hq, List.length_cons]
      have h1 : (q - thr k bias) / (36 - thr k bias) ≤ (q - thr k bias) / 10 := Nat.div_le_div_left (by omega) (by omega)
      have h2 : (q - thr k bias) / 10 < 10 ^ n := by
        rw [Nat.pow_succ] at h
        omega
      have := ih ((q - thr k bias) / (36 - thr k bias)) (k + 36) (Nat.lt_of_le_of_lt h1 h2)
      omega
theorem tells_len (basic : Nat) (ds : List Nat) : ∀ (bias h : Nat), (∀ d ∈ ds, d < 1000000000) → (tells basic ds bias h).length ≤ 10 * ds.length := by
  induction ds with
  | nil => intro bias h _; simp [tells]
  | cons d ds ih =>
    intro bias h hd
    have h1 := ih (adapt d (h + 1) (h == basic)) (h + 1) (fun x hx => hd x (List.mem_cons_of_mem _ hx))
    have h2 := tellK_log bias 9 d 36 (by have := hd d (List.mem_cons_self ..); simpa using this)
    show (tellK d bias 36 ++ _).length ≤ _
    rw [List.length_append, List.length_cons]
    omega
theorem deltas_small (ds : List Nat) : ∀ (cur : List Nat) (n i : Nat), (∀ x ∈ (runD ds cur n i).1, sc x = true) → (runD ds cur n i).1.length ≤ 250 → ∀ d ∈ ds, d < 1000000000 := by
  induction ds with
  | nil => intro cur n i _ _ d hd; cases hd
  | cons d ds ih =>
    intro cur n i hs hl x hx
    have hlen : cur.length + (d :: ds).length ≤ 250 := by rw [← runD_length (d :: ds) cur n i]; exact hl
    rw [List.length_cons] at hlen
    rcases List.mem_cons.1 hx with rfl | hx
    · have hin : n + (i + x) / (cur.length + 1) ∈ (runD (x :: ds) cur n i).1 := runD_mem ds _ _ _ _ (mem_ins.2 (.inl rfl))
      have hsc := hs _ hin
      have hle : (i + x) / (cur.length + 1) ≤ 1114111 := by
        have := sc_lt hsc
        exact Nat.le_trans (Nat.le_add_left _ _) (Nat.le_of_lt_succ this)
      have hb1 : i + x < 1114112 * (cur.length + 1) := (Nat.div_lt_iff_lt_mul (by omega)).1 (by omega)
      have hb : i + x < 1114112 * 251 := Nat.lt_of_lt_of_le hb1 (Nat.mul_le_mul_left _ (by omega))
      omega
    · exact ih _ _ _ hs hl x hx
theorem penc_len {l : List Nat} (hs : ∀ x ∈ l, sc x = true) (hl : l.length ≤ 250) : (penc l).length ≤ 11 * l.length + 1 := by
  have hr := run_deltas hs
  have h1 := deltas_small (deltas l l.length 128 0 (basicOf l).length) (basicOf l) 128 0 (by rw [hr]; exact hs) (by rw [hr]; exact hl)
  have h2 := tells_len (basicOf l).length (deltas l l.length 128 0 (basicOf l).length) 72 (basicOf l).length h1
  have h3 := runD_length (deltas l l.length 128 0 (basicOf l).length) (basicOf l) 128 0
  rw [hr] at h3
  have h4 : (basicOf l).length ≤ l.length := List.length_filter_le _ _
  unfold penc
  rw [List.length_append, List.length_append, List.length_map]
  split <;> simp only [List.length_nil, List.length_cons] <;> omega
theorem pdec_length {s : List UInt8} {l : List Nat} (h : pdec s = some l) : l.length ≤ s.length := by
  have main : ∀ (f : Nat) (t : List UInt8) (cur : List Nat), (∀ x ∈ cur, x < 128) → decT f t cur 128 0 72 = some l → l.length ≤ cur.length + t.length := by
    intro f t cur hcur hd
    obtain ⟨ds, h1, h2, _⟩ := tells_decT cur.length f t cur 128 0 72 l hd (.inl ⟨rfl, rfl⟩) (fun x hx => sc_small (hcur x hx))
    have h3 := dtells_length cur.length ds 72 cur.length
    rw [← h1, List.length_map] at h3
    rw [← h2, runD_length]
    omega
  unfold pdec at h
  split at h
  · cases h
  · rename_i hany
    have hsm : ∀ b ∈ s, b.toNat < 128 := by
      intro b hb
      have := List.any_eq_false.1 (Bool.eq_false_iff.2 hany) b hb
      simp at this; omega
    split at h
    · have := main _ _ _ (fun x hx => by
        obtain ⟨y, hy, rfl⟩ := List.mem_map.1 hx
        exact hsm y (List.mem_of_mem_take hy)) h
      simp only [List.length_map, List.length_take, List.length_drop] at this
      omega
    · have := main _ _ _ (fun x hx => by cases hx) h
      simpa using this

/-- A list of numbers is scalars, as numbers; or not. -/
theorem ints_of {l : List Int} (h : ∀ c ∈ l, scal c = true) : l = ints (l.map Int.toNat) ∧ ∀ x ∈ l.map Int.toNat, sc x = true := by
  have hp : ∀ c ∈ l, ((c.toNat : Nat) : Int) = c := fun c hc => by have := (scal_iff c).1 (h c hc); omega
  refine ⟨?_, fun x hx => ?_⟩
  · unfold ints
    rw [List.map_map]
    exact ((List.map_congr_left (g := id) fun c hc => hp c hc).trans (List.map_id _)).symm
  · obtain ⟨c, hc, rfl⟩ := List.mem_map.1 hx
    rw [← sc_scal', hp c hc]
    exact h c hc

def EncOk (ln : List Nat) (w : World) (e : Ending) (w' : World) : Prop := e = .returned (.tuple #[.string ⟨(penc ln).toArray⟩, .nilIface]) ∧ Below w.heap.size w w'
def EncBad (w : World) (e : Ending) (w' : World) : Prop := ∃ cs u x, e = .returned (.tuple #[.string ⟨#[]⟩, .iface u x]) ∧ Chain w' cs (some 2) (.iface u x) ∧ Below w.heap.size w w'
def DecPostN (o : Option (List Nat)) (w : World) (e : Ending) (w' : World) : Prop := match o with
  | none => ∃ cs u x, e = .returned (.tuple #[.slice none 0 0, .iface u x]) ∧ Chain w' cs (some 2) (.iface u x) ∧ Below w.heap.size w w'
  | some l => ∃ A c, e = .returned (.tuple #[.slice A l.length c, .nilIface]) ∧ Runes w' A (ints l) ∧ l.length ≤ c ∧ Below w.heap.size w w'
/-- The program's Encode and Decode do as the document says. -/
structure PunyC : Prop where
  encOk : ∀ (A : Option Addr) (ln : List Nat) (cap : Nat) (w : World), Runes w A (ints ln) → (∀ c ∈ ln, sc c = true) → ln.length ≤ 250 → ln.length ≤ cap →
    Calls Tryz.prog 21 #[.slice A ln.length cap] w (EncOk ln w)
  encBad : ∀ (A : Option Addr) (l : List Int) (cap : Nat) (w : World), Runes w A l → (∀ c ∈ l, -2147483648 ≤ c ∧ c < 2147483648) → (¬ ∀ c ∈ l, scal c = true) → l.length ≤ 250 → l.length ≤ cap →
    Calls Tryz.prog 21 #[.slice A l.length cap] w (EncBad w)
  dec : ∀ (s : ByteArray) (w : World), s.size ≤ 3000 → Calls Tryz.prog 44 #[.string s] w (DecPostN (pdec s.data.toList) w)
end Go.Proofs.YtfaieldafoeaiaaGreatDoor

/-
  The document's All of layer 6, by its contract.
-/
namespace Go.Proofs.YtfaieldafoeaiaaGreatDoor
open Go.RowKit

theorem made_cap {w w' : World} {v : Value} {l : List Int} {A : Option Addr} {c : Nat} (h : Made w w' v l) (hv : v = .slice A l.length c) : (A = none ∧ l.length = 0 ∧ c = 0) ∨ (∃ g, A = some ⟨g, 0, none⟩) ∧ l.length ≤ c ∧ c ≤ 9223372036854775807 := by
  rcases h.1.2 with ⟨e, h0⟩ | ⟨g, cap, cur, e, _, _, h1, h2, _⟩
  · rw [hv] at e
    simp only [Value.slice.injEq] at e
    exact .inl ⟨e.1, e.2.1, e.2.2⟩
  · rw [hv] at e
    simp only [Value.slice.injEq] at e
    unfold maxLen at h2
    exact .inr ⟨⟨g, e.1⟩, by omega, by omega⟩
theorem one_any6 (A : Option Addr) (l : List Int) (cap : Nat) (w : World) (h : Runes w A l) (hl : l.length ≤ 220) :
    Calls Tryz.prog 8 #[.slice A l.length cap] w (OnePost (lone l) w) := by
  by_cases hs : ∀ c ∈ l, scal c = true
  · exact one_good6 A l cap w h hl hs
  · rw [lone_bad hs]
    exact one_bad6 A l cap w h (by omega) hs
theorem lone_len {l : List Int} {x : List UInt8} (h : lone l = some x) (hl : l.length ≤ 250) : x.length ≤ 16 * (l.length + 1) := by
  by_cases hs : ∀ c ∈ l, scal c = true
  · have he := enc_length l
    by_cases hx : l.take 4 = xnI
    · rw [lone_xn hs hx] at h
      split at h
      · cases h; omega
      · cases h
    · cases hp : plainL l with
      | true => rw [lone_plain hs hx hp] at h; cases h; omega
      | false =>
        cases hm : markL l with
        | true => rw [lone_mark hs hx hp hm] at h; cases h
        | false =>
          rw [lone_puny hs hx hp hm] at h
          cases h
          have hsc6 : ∀ n ∈ l.map Int.toNat, sc n = true := fun n hn => by
            obtain ⟨c, hc, rfl⟩ := List.mem_map.1 hn
            have hcs := (scal_iff c).1 (hs c hc)
            rw [← sc_scal', show ((c.toNat : Nat) : Int) = c by omega]
            exact hs c hc
          have := penc_len6 hsc6 (by rw [List.length_map]; exact hl)
          rw [List.length_map] at this
          rw [List.length_append]
          simp [xnB]
          omega
  · rw [lone_bad hs] at h; cases h
theorem parts_cur {cur : List Int} (h : (46 : Int) ∉ cur) (r : List Int) : partsOf (cur ++ 46 :: r) = cur :: partsOf r := by rw [partsOf_append, partsOf_none h]; rfl
theorem mapOne_snoc {qs : List (List Int)} {xs : List (List UInt8)} {p : List Int} {x : List UInt8} (h : mapOne qs = some xs) (hx : lone p = some x) : mapOne (qs ++ [p]) = some (xs ++ [x]) := by
  rw [mapOne_append, h]
  simp only [mapOne, hx]
theorem mapOne_stop {qs : List (List Int)} {p : List Int} (r : List (List Int)) (hx : lone p = none) : mapOne (qs ++ p :: r) = none := by
  rw [mapOne_append]
  have : mapOne (p :: r) = none := by simp only [mapOne, hx]
  rw [this]
  cases mapOne qs <;> rfl
theorem joinB_snoc (xs : List (List UInt8)) (x : List UInt8) (h : xs ≠ []) : joinB (xs ++ [x]) = joinB xs ++ 46 :: x := by rw [joinB_append h (by simp)]; rfl

/-- Where the loop stands: parts that are told, and the part that is at hand. -/
structure AllAt (f : List Int) (from_ i : Nat) (bs : ByteArray) (qs : List (List Int)) (xs : List (List UInt8)) : Prop where
  told : mapOne qs = some xs
  out : bs.data.toList = joinB xs
  first : from_ = 0 ↔ xs = []
  le : from_ ≤ i
  len : bs.size ≤ 20 * from_
  rest : (i ≤ f.length ∧ partsOf f = qs ++ partsOf (f.drop from_) ∧ (46 : Int) ∉ (f.drop from_).take (i - from_)) ∨ (i = f.length + 1 ∧ from_ = f.length + 1 ∧ partsOf f = qs)
theorem AllAt.start (f : List Int) : AllAt f 0 0 ⟨#[]⟩ [] [] := ⟨rfl, rfl, by simp, Nat.le_refl _, Nat.le_refl 0, .inl ⟨Nat.zero_le _, rfl, by simp⟩⟩
theorem part_here {f : List Int} {from_ i : Nat} (hi : from_ ≤ i) (hlt : i < f.length) : (f.drop from_).take (i + 1 - from_) = (f.drop from_).take (i - from_) ++ [f[i]] := by
  rw [show i + 1 - from_ = i - from_ + 1 by omega, List.take_succ_eq_append_getElem (by rw [List.length_drop]; omega), List.getElem_drop]
  congr 2
  congr 1
  omega
theorem AllAt.step {f : List Int} {from_ i : Nat} {bs : ByteArray} {qs : List (List Int)} {xs : List (List UInt8)} (h : AllAt f from_ i bs qs xs) (hlt : i < f.length) (hc : f[i] ≠ 46) : AllAt f from_ (i + 1) bs qs xs := by
  refine ⟨h.told, h.out, h.first, by have := h.le; omega, h.len, ?_⟩
  rcases h.rest with ⟨h1, h2, h3⟩ | ⟨h1, _⟩
  · refine .inl ⟨by omega, h2, ?_⟩
    rw [part_here h.le hlt, List.mem_append, not_or]
    exact ⟨h3, by simpa using Ne.symm hc⟩
  · omega
/-- The part at hand is the next one. -/
theorem AllAt.next {f : List Int} {from_ i : Nat} {bs : ByteArray} {qs : List (List Int)} {xs : List (List UInt8)} (h : AllAt f from_ i bs qs xs) (hle : i ≤ f.length) (hc : i = f.length ∨ ∃ hlt : i < f.length, f[i] = 46) :
    ∃ r, partsOf f = qs ++ (f.drop from_).take (i - from_) :: r ∧ (i < f.length → r = partsOf (f.drop (i + 1))) ∧ (i = f.length → r = []) := by
  have hli := h.le
  rcases h.rest with ⟨h1, h2, h3⟩ | ⟨h1, _⟩
  · rcases hc with e | ⟨hlt, e⟩
    · refine ⟨[], ?_, fun h' => by omega, fun _ => rfl⟩
      have : (f.drop from_).take (i - from_) = f.drop from_ := List.take_of_length_le (by rw [List.length_drop]; omega)
      rw [this] at h3 ⊢
      rw [h2, partsOf_none h3]
    · refine ⟨partsOf (f.drop (i + 1)), ?_, fun _ => rfl, fun h' => by omega⟩
      have hsp : f.drop from_ = (f.drop from_).take (i - from_) ++ 46 :: f.drop (i + 1) := by
        conv => lhs; rw [← List.take_append_drop (i - from_) (f.drop from_)]
        rw [List.drop_drop, show from_ + (i - from_) = i by omega, List.drop_eq_getElem_cons hlt, e]
      rw [h2]
      conv => lhs; rw [hsp]
      rw [parts_cur h3]
  · omega
theorem AllAt.told_ {f : List Int} {from_ i : Nat} {bs b2 : ByteArray} {qs : List (List Int)} {xs : List (List UInt8)} {x : List UInt8} (h : AllAt f from_ i bs qs xs) (hle : i ≤ f.length) (hc : i = f.length ∨ ∃ hlt : i < f.length, f[i] = 46) (hx : lone ((f.drop from_).take (i - from_)) = some x) (hl : f.length ≤ 220)
    (hb : b2.data.toList = if from_ = 0 then bs.data.toList ++ x else bs.data.toList ++ 46 :: x) : AllAt f (i + 1) (i + 1) b2 (qs ++ [(f.drop from_).take (i - from_)]) (xs ++ [x]) := by
  have hli := h.le
  obtain ⟨r, hr, hr1, hr2⟩ := h.next hle hc
  have hlen := lone_len hx (by rw [List.length_take, List.length_drop]; omega)
  rw [List.length_take, List.length_drop] at hlen
  have hbs : bs.size = bs.data.toList.length := by simp
  have hb2 : b2.size = b2.data.toList.length := by simp
  have hl0 := h.len
  refine ⟨mapOne_snoc h.told hx, ?_, by simp, Nat.le_refl _, ?_, ?_⟩
  · rw [hb]
    by_cases e : from_ = 0
    · rw [if_pos e, h.out, (h.first.1 e)]; rfl
    · rw [if_neg e, h.out, joinB_snoc _ _ (fun e2 => e (h.first.2 e2))]
  · rw [hb2, hb]
    split
    · rw [List.length_append, ← hbs]; omega
    · rw [List.length_append, List.length_cons, ← hbs]; omega
  · by_cases e : i < f.length
    · refine .inl ⟨by omega, ?_, by simp⟩
      rw [hr, hr1 e, List.append_assoc]; rfl
    · refine .inr ⟨by omega, by omega, ?_⟩
      rw [hr, hr2 (by omega)]
theorem AllAt.stop {f : List Int} {from_ i : Nat} {bs : ByteArray} {qs : List (List Int)} {xs : List (List UInt8)} (h : AllAt f from_ i bs qs xs) (hle : i ≤ f.length) (hc : i = f.length ∨ ∃ hlt : i < f.length, f[i] = 46) (hx : lone ((f.drop from_).take (i - from_)) = none) : mapOne (partsOf f) = none := by
  obtain ⟨r, hr, _⟩ := h.next hle hc
  rw [hr, mapOne_stop _ hx]

def NamePost (r : Nat × List UInt8) (w : World) (e : Ending) (w' : World) : Prop := e = .returned (.tuple #[.string ⟨r.2.toArray⟩, .int .i64 r.1]) ∧ Below w.heap.size w w'

set_option maxHeartbeats 2000000 in
set_option maxRecDepth 100000 in
theorem all_any6 (A : Option Addr) (l : List Int) (cap : Nat) (w : World) (h : Runes w A l) (hl : l.length ≤ 110) :
    Calls Tryz.prog 11 #[.slice A l.length cap] w (NamePost (lall l) w) := by
  have HFo := refFold_any A l cap w h (by omega)
  cases hf : foldL l with
  | none =>
    rw [hf] at HFo
    have HL := Lib.hid (all_bad hf)
    clear h hf
    rw [HL.out]
    go_enter Tryz.func11, Tryz.ntmps11
    go_wp2_with (go_at_call 12; refine HFo.mono ?_; rintro e w1 ⟨rfl, hb1⟩; have HB := Lib.hid hb1; clear hb1)
    go_ret2
    exact ⟨rfl, HB.out⟩
  | some f =>
    rw [hf] at HFo
    have hfl : f.length ≤ 220 := by
      obtain ⟨m, hm, rfl⟩ := Option.map_eq_some_iff.1 hf
      have h1 := mapAll_length hm
      have h2 := comp_length m.length m (Nat.le_refl _)
      omega
    obtain ⟨R, hR⟩ : ∃ R, lall l = R := ⟨_, rfl⟩
    have HL : Hid (match mapOne (partsOf f) with
      | none => R = (2, [])
      | some ps => R = if joinB ps = [] then (3, []) else (0, joinB ps)) := by
      show match mapOne (partsOf f) with
        | none => R = (2, [])
        | some ps => R = if joinB ps = [] then (3, []) else (0, joinB ps)
      rw [← hR]
      unfold lall
      cases hm : mapOne (partsOf f) <;> simp only [hf, hm]
    rw [hR]
    clear h hf hR
    go_enter Tryz.func11, Tryz.ntmps11
    go_wp2_with (go_at_call 12; refine HFo.mono ?_; rintro e w1 ⟨v1, rfl, hm1⟩; obtain ⟨Af, cf, hv1, hr1⟩ := hm1.runes; have hcf := made_cap hm1 hv1; subst hv1; have HM := Lib.hid hm1; have HRf := Lib.hid hr1; clear hm1 hr1)
    clear HFo
    go_loopw [6, 7, 8] (fun v6 v7 v8 wr => ∃ (from_ i : Nat) (bs : ByteArray) (qs : List (List Int)) (xs : List (List UInt8)), v6 = .string bs ∧ v7 = .int .i64 from_ ∧ v8 = .int .i64 i ∧ AllAt f from_ i bs qs xs ∧ Below w.heap.size w wr ∧ Runes wr Af f) (fun _ _ v8 _ => f.length + 2 - (intOf v8).toNat)
    case atStart => exact ⟨0, 0, ⟨#[]⟩, [], [], rfl, rfl, rfl, AllAt.start f, HM.out.2, HRf.out⟩
    case round =>
      obtain ⟨from_, i, bs, qs, xs, rfl, rfl, rfl, hat, hbel, hrun⟩ := hrel
      clear HM HRf
      have HAt := Lib.hid hat
      have HBe := Lib.hid hbel
      have HRu := Lib.hid hrun
      have hfi := hat.le
      have hbs := hat.len
      clear hat hbel
      by_cases hle : i ≤ f.length
      · by_cases hstep : ∃ hlt : i < f.length, f[i] ≠ 46
        · obtain ⟨hlt, hc46⟩ := hstep
          obtain ⟨b, off, rfl, _, hc⟩ := hrun i f[i] (List.getElem?_eq_getElem hlt)
          have hne : (f[i] != 46) = true := by rw [bne_iff_ne]; exact hc46
          have HN := Lib.hid (HAt.out.step hlt hc46)
          clear hrun hc46
          go_wp2
          go_roundw
          case rel => exact ⟨from_, i + 1, bs, qs, xs, rfl, rfl, by go_num, HN.out, HBe.out, HRu.out⟩
          case measure => simp [intOf]; omega
        · have hend : i = f.length ∨ ∃ hlt : i < f.length, f[i] = 46 := by
            by_cases hlt : i < f.length
            · exact .inr ⟨hlt, Classical.byContradiction fun hc => hstep ⟨hlt, hc⟩⟩
            · exact .inl (by omega)
          obtain ⟨part, hpart⟩ : ∃ part, (f.drop from_).take (i - from_) = part := ⟨_, rfl⟩
          have hpl : part.length = i - from_ := by rw [← hpart, List.length_take, List.length_drop]; omega
          have HOne : Hid (∀ Y n c w', n = part.length → Runes w' Y part → Calls Tryz.prog 8 #[.slice Y n c] w' (OnePost (lone part) w')) := by
            intro Y n c w' hn hY
            rw [hn]
            exact one_any6 Y part c w' hY (by omega)
          have HE := Lib.hid hend
          cases hx : lone part with
          | none =>
            have HRn : Hid (R = (2, [])) := by
              show R = _
              have h1 := HAt.out.stop hle hend (by rw [hpart]; exact hx)
              have h2 := HL.out
              rw [h1] at h2
              exact h2
            rw [hx] at HOne
            clear hx
            by_cases hlt : i < f.length
            · obtain ⟨hlt', hc46⟩ := HE.out.resolve_left (by omega)
              obtain ⟨b, off, rfl, _, hc⟩ := hrun i f[i] (List.getElem?_eq_getElem hlt)
              rw [hc46] at hc
              obtain ⟨_, hc1, hc2⟩ := hcf.resolve_left (fun h => by cases h.1)
              have HP := Lib.hid (show Runes wr (some ⟨b, off + from_, none⟩) part by rw [← hpart]; exact (hrun.drop from_).take _)
              clear hrun hcf hc46
              go_wp2_with (go_at_call 8; refine (HOne.out _ _ _ _ (by omega) (by first | exact HP.out | (rw [HP.out]; exact Runes.nil_))).mono ?_; rintro e w2 ⟨rfl, hb2⟩; have HB2 := Lib.hid hb2; clear hb2)
              go_ret2
              rw [HRn.out]
              exact ⟨rfl, HBe.out.trans (HB2.out.mono HBe.out.size)⟩
            · rcases hcf with ⟨rfl, hn, rfl⟩ | ⟨⟨g, rfl⟩, hc1, hc2⟩
              · have HP := Lib.hid (show part = [] from List.eq_nil_of_length_eq_zero (by omega))
                clear hrun
                go_wp2_with (go_at_call 8; refine (HOne.out _ _ _ _ (by omega) (by first | exact HP.out | (rw [HP.out]; exact Runes.nil_))).mono ?_; rintro e w2 ⟨rfl, hb2⟩; have HB2 := Lib.hid hb2; clear hb2)
                go_ret2
                rw [HRn.out]
                exact ⟨rfl, HBe.out.trans (HB2.out.mono HBe.out.size)⟩
              · by_cases hcp : cf = from_
                · have HP := Lib.hid (show part = [] from List.eq_nil_of_length_eq_zero (by omega))
                  clear hrun
                  go_wp2_with (go_at_call 8; refine (HOne.out _ _ _ _ (by omega) (by first | exact HP.out | (rw [HP.out]; exact Runes.nil_))).mono ?_; rintro e w2 ⟨rfl, hb2⟩; have HB2 := Lib.hid hb2; clear hb2)
                  go_ret2
                  rw [HRn.out]
                  exact ⟨rfl, HBe.out.trans (HB2.out.mono HBe.out.size)⟩
                · have HP := Lib.hid (show Runes wr (some ⟨g, from_, none⟩) part by have := (hrun.drop from_).take (i - from_); rw [hpart, Nat.zero_add] at this; exact this)
                  clear hrun
                  go_wp2_with (go_at_call 8; refine (HOne.out _ _ _ _ (by omega) (by first | exact HP.out | (rw [HP.out]; exact Runes.nil_))).mono ?_; rintro e w2 ⟨rfl, hb2⟩; have HB2 := Lib.hid hb2; clear hb2)
                  go_ret2
                  rw [HRn.out]
                  exact ⟨rfl, HBe.out.trans (HB2.out.mono HBe.out.size)⟩
          | some x =>
            have hxl := lone_len hx (by omega)
            have HX := Lib.hid hx
            obtain ⟨xb, hxb⟩ : ∃ xb : ByteArray, xb = ⟨x.toArray⟩ := ⟨_, rfl⟩
            have hxs : xb.size ≤ 16 * (part.length + 1) := by rw [hxb]; show x.toArray.size ≤ _; simpa using hxl
            have HXB : Hid (xb.data.toList = x) := by
              show xb.data.toList = x
              rw [hxb]
            have HOne2 : Hid (∀ Y n c w', n = part.length → Runes w' Y part → Calls Tryz.prog 8 #[.slice Y n c] w' (fun e w'' => e = .returned (.tuple #[.string xb, .int .i64 0]) ∧ Below w'.heap.size w' w'')) := by
              intro Y n c w' hn hY
              have := HOne.out Y n c w' hn hY
              rw [hx] at this
              rw [hxb]
              exact this
            have HT : Hid (∀ b2 : ByteArray, b2.data.toList = (if from_ = 0 then bs.data.toList ++ x else bs.data.toList ++ 46 :: x) → AllAt f (i + 1) (i + 1) b2 (qs ++ [part]) (xs ++ [x])) := by
              intro b2 hb
              have := HAt.out.told_ hle hend (by rw [hpart]; exact hx) hfl hb
              rw [hpart] at this
              exact this
            have HPt := Lib.hid hpart
            clear HOne hx hxl hxb hend hpart hstep
            by_cases h0 : from_ = 0
            · subst h0
              by_cases hlt : i < f.length
              · obtain ⟨hlt', hc46⟩ := HE.out.resolve_left (by omega)
                obtain ⟨b, off, rfl, _, hc⟩ := hrun i f[i] (List.getElem?_eq_getElem hlt)
                rw [hc46] at hc
                obtain ⟨_, hc1, hc2⟩ := hcf.resolve_left (fun h => by cases h.1)
                have HP := Lib.hid (show Runes wr (some ⟨b, off, none⟩) part by have := (hrun.drop 0).take (i - 0); rw [HPt.out] at this; exact this)
                clear hrun hcf hc46
                go_wp2_with (go_at_call 8; refine (HOne2.out _ _ _ _ (by omega) (by first | exact HP.out | (rw [HP.out]; exact Runes.nil_))).mono ?_; rintro e w2 ⟨rfl, hb2⟩; have HB2 := Lib.hid hb2; clear hb2)
                go_roundw
                case rel => exact ⟨i + 1, i + 1, _, _, _, rfl, by go_num, by go_num, HT.out _ (by simp [HXB.out]), HBe.out.trans (HB2.out.mono HBe.out.size), HRu.out.below HB2.out⟩
                case measure => simp [intOf]; omega
              · rcases hcf with ⟨rfl, hn, rfl⟩ | ⟨⟨g, rfl⟩, hc1, hc2⟩
                · have HP := Lib.hid (show part = [] from List.eq_nil_of_length_eq_zero (by omega))
                  obtain rfl : i = 0 := by omega
                  obtain rfl : f = [] := List.eq_nil_of_length_eq_zero hn
                  clear hrun hn
                  go_wp2_with (go_at_call 8; refine (HOne2.out _ _ _ _ (by omega) (by first | exact HP.out | (rw [HP.out]; exact Runes.nil_))).mono ?_; rintro e w2 ⟨rfl, hb2⟩; have HB2 := Lib.hid hb2; clear hb2)
                  simp only [List.length_nil]
                  go_roundw
                  case rel => exact ⟨0 + 1, 0 + 1, _, _, _, rfl, by go_num, by go_num, HT.out _ (by simp [HXB.out]), HBe.out.trans (HB2.out.mono HBe.out.size), HRu.out.below HB2.out⟩
                  case measure => simp [intOf]
                · by_cases hcp : cf = 0
                  · have HP := Lib.hid (show part = [] from List.eq_nil_of_length_eq_zero (by omega))
                    obtain rfl : i = 0 := by omega
                    obtain rfl : f = [] := List.eq_nil_of_length_eq_zero (by omega)
                    subst hcp
                    clear hrun
                    go_wp2_with (go_at_call 8; refine (HOne2.out _ _ _ _ (by omega) (by first | exact HP.out | (rw [HP.out]; exact Runes.nil_))).mono ?_; rintro e w2 ⟨rfl, hb2⟩; have HB2 := Lib.hid hb2; clear hb2)
                    simp only [List.length_nil]
                    go_roundw
                    case rel => exact ⟨0 + 1, 0 + 1, _, _, _, rfl, by go_num, by go_num, HT.out _ (by simp [HXB.out]), HBe.out.trans (HB2.out.mono HBe.out.size), HRu.out.below HB2.out⟩
                    case measure => simp [intOf]
                  · have HP := Lib.hid (show Runes wr (some ⟨g, 0, none⟩) part by have := (hrun.drop 0).take (i - 0); rw [HPt.out, Nat.zero_add] at this; exact this)
                    clear hrun
                    go_wp2_with (go_at_call 8; refine (HOne2.out _ _ _ _ (by omega) (by first | exact HP.out | (rw [HP.out]; exact Runes.nil_))).mono ?_; rintro e w2 ⟨rfl, hb2⟩; have HB2 := Lib.hid hb2; clear hb2)
                    go_roundw
                    case rel => exact ⟨i + 1, i + 1, _, _, _, rfl, by go_num, by go_num, HT.out _ (by simp [HXB.out]), HBe.out.trans (HB2.out.mono HBe.out.size), HRu.out.below HB2.out⟩
                    case measure => simp [intOf]; omega
            · by_cases hlt : i < f.length
              · obtain ⟨hlt', hc46⟩ := HE.out.resolve_left (by omega)
                obtain ⟨b, off, rfl, _, hc⟩ := hrun i f[i] (List.getElem?_eq_getElem hlt)
                rw [hc46] at hc
                obtain ⟨_, hc1, hc2⟩ := hcf.resolve_left (fun h => by cases h.1)
                have HP := Lib.hid (show Runes wr (some ⟨b, off + from_, none⟩) part by have := (hrun.drop from_).take (i - from_); rw [HPt.out] at this; exact this)
                clear hrun hcf hc46
                go_wp2_with (go_at_call 8; refine (HOne2.out _ _ _ _ (by omega) (by first | exact HP.out | (rw [HP.out]; exact Runes.nil_))).mono ?_; rintro e w2 ⟨rfl, hb2⟩; have HB2 := Lib.hid hb2; clear hb2)
                go_roundw
                case rel => exact ⟨i + 1, i + 1, _, _, _, rfl, by go_num, by go_num, HT.out _ (by rw [if_neg h0]; simp [HXB.out]), HBe.out.trans (HB2.out.mono HBe.out.size), HRu.out.below HB2.out⟩
                case measure => simp [intOf]; omega
              · rcases hcf with ⟨rfl, hn, rfl⟩ | ⟨⟨g, rfl⟩, hc1, hc2⟩
                · omega
                · by_cases hcp : cf = from_
                  · have HP := Lib.hid (show part = [] from List.eq_nil_of_length_eq_zero (by omega))
                    subst hcp
                    clear hrun
                    go_wp2_with (go_at_call 8; refine (HOne2.out _ _ _ _ (by omega) (by first | exact HP.out | (rw [HP.out]; exact Runes.nil_))).mono ?_; rintro e w2 ⟨rfl, hb2⟩; have HB2 := Lib.hid hb2; clear hb2)
                    go_roundw
                    case rel => exact ⟨i + 1, i + 1, _, _, _, rfl, by go_num, by go_num, HT.out _ (by rw [if_neg h0]; simp [HXB.out]), HBe.out.trans (HB2.out.mono HBe.out.size), HRu.out.below HB2.out⟩
                    case measure => simp [intOf]; omega
                  · have HP := Lib.hid (show Runes wr (some ⟨g, from_, none⟩) part by have := (hrun.drop from_).take (i - from_); rw [HPt.out, Nat.zero_add] at this; exact this)
                    clear hrun
                    go_wp2_with (go_at_call 8; refine (HOne2.out _ _ _ _ (by omega) (by first | exact HP.out | (rw [HP.out]; exact Runes.nil_))).mono ?_; rintro e w2 ⟨rfl, hb2⟩; have HB2 := Lib.hid hb2; clear hb2)
                    go_roundw
                    case rel => exact ⟨i + 1, i + 1, _, _, _, rfl, by go_num, by go_num, HT.out _ (by rw [if_neg h0]; simp [HXB.out]), HBe.out.trans (HB2.out.mono HBe.out.size), HRu.out.below HB2.out⟩
                    case measure => simp [intOf]; omega
      · clear hrun
        have HR : Hid (R = if joinB xs = [] then (3, []) else (0, joinB xs)) := by
          show R = _
          rcases HAt.out.rest with ⟨h1, _⟩ | ⟨_, _, h3⟩
          · omega
          · have := HL.out
            rw [h3, HAt.out.told] at this
            exact this
        cases he : bs.toList.isEmpty
        · have HR2 : Hid (R = (0, bs.data.toList)) := by
            show R = _
            rw [HR.out, ← HAt.out.out, ← list_data, if_neg (fun e => by rw [e] at he; cases he)]
          go_wp2
          go_ret2
          rw [HR2.out]
          exact ⟨rfl, HBe.out⟩
        · have HR2 : Hid (R = (3, [])) := by
            show R = _
            rw [HR.out, ← HAt.out.out, ← list_data, if_pos (List.isEmpty_iff.1 he)]
          go_wp2
          go_ret2
          rw [HR2.out]
          exact ⟨rfl, HBe.out⟩
end Go.Proofs.YtfaieldafoeaiaaGreatDoor

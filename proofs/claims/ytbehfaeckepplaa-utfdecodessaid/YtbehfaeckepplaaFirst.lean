/-
  utf.first: the scalar at the begin of a text, by its contract.
-/
import Derived.Test.YtbehfaeckepplaaSmall
import Derived.Laws.BitsLemmas
namespace Go.Proofs.Ytbehfaeckepplaa
open Go.RowKit

theorem drop_byte (s : ByteArray) (k : Nat) (h : k < s.size) : s.data.toList.drop k = s[k] :: s.data.toList.drop (k + 1) := by
  rw [List.drop_eq_getElem_cons (by simpa using h)]; rfl
theorem drop_end (s : ByteArray) (k : Nat) (h : s.size ≤ k) : s.data.toList.drop k = [] := by
  apply List.drop_eq_nil_of_le; simpa using h
theorem take_byte (s : ByteArray) (k : Nat) (h : k < s.size) (h1 : 1 ≤ k) : (s.data.toList.drop 1).take k = (s.data.toList.drop 1).take (k - 1) ++ [s[k]] := by
  obtain ⟨j, rfl⟩ : ∃ j, k = j + 1 := ⟨k - 1, by omega⟩
  rw [List.take_succ_eq_append_getElem (by simp; omega)]
  simp only [Nat.add_sub_cancel, List.getElem_drop, Nat.add_comm 1 j]
  rfl
theorem one_whole (s : ByteArray) (h0 : 0 < s.size) (n : Nat) (hn : lensOf s[0].toNat = n) (h : ext s[0].toNat n 1 (s.data.toList.drop 1) = n) :
    one s.data.toList = (acc (headBits s[0].toNat n) ((s.data.toList.drop 1).take (n - 1)), n, true) := by
  have e := drop_byte s 0 h0
  rw [List.drop_zero] at e
  rw [e]
  subst hn
  simp only [one, List.drop_succ_cons, List.drop_zero]
  simp only [Nat.zero_add] at h ⊢
  rw [if_pos h]
theorem one_part (s : ByteArray) (h0 : 0 < s.size) (n k : Nat) (hn : lensOf s[0].toNat = n) (h : ext s[0].toNat n 1 (s.data.toList.drop 1) = k) (hk : k ≠ n) :
    one s.data.toList = (65533, k, false) := by
  have e := drop_byte s 0 h0
  rw [List.drop_zero] at e
  rw [e]
  subst hn
  simp only [one]
  simp only [Nat.zero_add] at h ⊢
  rw [if_neg (by omega), h]

/-- The world in the loop of first: the cells of size, of more and of the bounds. -/
structure FirstAt (w : World) (B : Nat) (a : Int) (n k : Nat) (wr : World) : Prop where
  below : Below w.heap.size w wr
  b0 : w.heap.size < B
  b1 : B + 1 < wr.heap.size
  size : wr.cell? ⟨w.heap.size, 0, none⟩ = some (.int .i64 k)
  more : wr.cell? ⟨B, 0, none⟩ = some (.int .i64 ((n : Int) - 1))
  lo0 : wr.cell? ⟨B + 1, 0, none⟩ = some (.int .u8 (lo a k))
  hi0 : wr.cell? ⟨B + 1, 1, none⟩ = some (.int .u8 (hi a k))
  f0 : wr.frozen? ⟨w.heap.size, 0, none⟩ = false
  f1 : wr.frozen? ⟨B + 1, 0, none⟩ = false
  f2 : wr.frozen? ⟨B + 1, 1, none⟩ = false

def FirstRel (s : ByteArray) (h0 : 0 < s.size) (n : Nat) (k : Nat) (v : Int) : Prop :=
  1 ≤ k ∧ k ≤ max n 1 ∧ k ≤ s.size ∧ ext s[0].toNat n 1 (s.data.toList.drop 1) = ext s[0].toNat n k (s.data.toList.drop k) ∧
  (n = 0 → v = 65533) ∧ (1 ≤ n → v = acc (headBits s[0].toNat n) ((s.data.toList.drop 1).take (k - 1))) ∧ 0 ≤ v ∧ v ≤ 17000000 ∧ (2 ≤ n → (k = 1 → v < 64) ∧ (k = 2 → v < 4096) ∧ (k = 3 → v < 262144))

def FirstPost (s : ByteArray) (w : World) (e : Ending) (w' : World) : Prop :=
  e = .returned (.tuple #[.int .i32 (one s.data.toList).1, .int .i64 ((one s.data.toList).2.1 : Nat), .bool (one s.data.toList).2.2]) ∧ Below w.heap.size w w'

theorem anyNext_below (w : World) :
    Calls Try.prog 24 #[] w fun e w' => e = .returned (.agg #[.int .u8 128, .int .u8 191]) ∧ Below w.heap.size w w' :=
  (anyNext_any w).mono fun _ _ ⟨he, hw⟩ => ⟨he, hw ▸ (Below.refl _ _).alloc (Nat.le_refl _) _⟩

theorem FirstAt.next {w wr w2 : World} {B : Nat} {a : Int} {n k : Nat} (h : FirstAt w B a n k wr) (hb : Below wr.heap.size wr w2) (h1 : 1 ≤ k) :
    FirstAt w B a n (k + 1) (((w2.setCell ⟨B + 1, 0, none⟩ (.int .u8 128)).setCell ⟨B + 1, 1, none⟩ (.int .u8 191)).setCell ⟨w.heap.size, 0, none⟩ (.int .i64 ((k : Int) + 1))) := by
  obtain ⟨ha, b0, b1, c0, c1, c2, c3, f0, f1, f2⟩ := h
  have hs := hb.size
  have n1 : (⟨B + 1, 0, none⟩ : Addr) ≠ ⟨w.heap.size, 0, none⟩ := fun e => by simp only [Addr.mk.injEq] at e; omega
  have n2 : (⟨B + 1, 1, none⟩ : Addr) ≠ ⟨w.heap.size, 0, none⟩ := fun e => by simp only [Addr.mk.injEq] at e; omega
  have n3 : (⟨w.heap.size, 0, none⟩ : Addr) ≠ ⟨B, 0, none⟩ := fun e => by simp only [Addr.mk.injEq] at e; omega
  have n4 : (⟨B + 1, 0, none⟩ : Addr) ≠ ⟨B, 0, none⟩ := fun e => by simp only [Addr.mk.injEq] at e; omega
  have n5 : (⟨B + 1, 1, none⟩ : Addr) ≠ ⟨B, 0, none⟩ := fun e => by simp only [Addr.mk.injEq] at e; omega
  have n6 : (⟨B + 1, 1, none⟩ : Addr) ≠ ⟨B + 1, 0, none⟩ := fun e => by simp only [Addr.mk.injEq] at e; omega
  have d0 := (hb.cell (p := ⟨w.heap.size, 0, none⟩) (by show w.heap.size < _; omega)).trans c0
  have d1 := (hb.cell (p := ⟨B, 0, none⟩) (by show B < _; omega)).trans c1
  have d2 := (hb.cell (p := ⟨B + 1, 0, none⟩) b1).trans c2
  have d3 := (hb.cell (p := ⟨B + 1, 1, none⟩) b1).trans c3
  constructor
  · exact (((ha.trans (hb.mono ha.size)).setCell (by show _ ≤ B + 1; omega) _).setCell (by show _ ≤ B + 1; omega) _).setCell (Nat.le_refl _) _
  · exact b0
  · simp; omega
  · rw [World.cell?_setCell_same' _ _ _ (by rw [World.cell?_setCell_other _ _ _ _ n2, World.cell?_setCell_other _ _ _ _ n1, d0]; rfl)]; rfl
  · rw [World.cell?_setCell_other _ _ _ _ n3, World.cell?_setCell_other _ _ _ _ n5, World.cell?_setCell_other _ _ _ _ n4, d1]
  · rw [World.cell?_setCell_other _ _ _ _ n1.symm, World.cell?_setCell_other _ _ _ _ n6, World.cell?_setCell_same' _ _ _ (by rw [d2]; rfl), lo_two _ _ (by omega)]
  · rw [World.cell?_setCell_other _ _ _ _ n2.symm, World.cell?_setCell_same' _ _ _ (by rw [World.cell?_setCell_other _ _ _ _ n6.symm, d3]; rfl), hi_two _ _ (by omega)]
  · simp only [World.frozen?_setCell]; exact (hb.frozen (p := ⟨w.heap.size, 0, none⟩) (by show w.heap.size < _; omega)).trans f0
  · simp only [World.frozen?_setCell]; exact (hb.frozen (p := ⟨B + 1, 0, none⟩) b1).trans f1
  · simp only [World.frozen?_setCell]; exact (hb.frozen (p := ⟨B + 1, 1, none⟩) b1).trans f2

theorem head_bound (a : Int) (n : Nat) (hn : lensOf a = n) (h0 : 0 ≤ a) : 0 ≤ leadBits a ∧ leadBits a ≤ 65533 ∧ (2 ≤ n → leadBits a < 64) := by
  unfold leadBits headBits
  unfold lensOf at *
  repeat' split at hn
  all_goals (subst hn; simp only [*, if_true, if_false]; first | (simp; done) | (simp; omega) | omega)

theorem FirstRel.start (s : ByteArray) (h0 : 0 < s.size) (n : Nat) (hn : lensOf s[0].toNat = n) : FirstRel s h0 n 1 (leadBits s[0].toNat) := by
  obtain ⟨b0, b1, b2⟩ := head_bound s[0].toNat n hn (by omega)
  refine ⟨Nat.le_refl _, by omega, by omega, rfl, fun e => ?_, fun e => ?_, b0, by omega, fun e => ⟨fun _ => b2 e, fun h => by omega, fun h => by omega⟩⟩
  · unfold leadBits; rw [if_pos (by omega)]
  · unfold leadBits; rw [if_neg (by omega), hn]; simp [acc]

theorem FirstRel.next {s : ByteArray} {h0 : 0 < s.size} {n k : Nat} {v : Int} (h : FirstRel s h0 n k v) (hk : k < n) (hn : n ≤ 4) (hs : k < s.size) (hf : fol s[0].toNat s[k].toNat k = true) :
    FirstRel s h0 n (k + 1) (64 * v + ((s[k].toNat : Int) - 128)) := by
  obtain ⟨h1, h2, h3, h4, h5, h6, h7, h8, h9⟩ := h
  have hb := fol_iff.1 hf
  have l1 := lo_ge s[0].toNat k
  have l2 := hi_le s[0].toNat k
  have h9' := h9 (by omega)
  refine ⟨by omega, by omega, by omega, ?_, fun e => by omega, fun e => ?_, by omega, by omega, fun e => ⟨fun _ => by omega, fun _ => by omega, fun _ => by omega⟩⟩
  · rw [h4, drop_byte s k hs, ext_good _ _ _ _ _ hk hf]
  · rw [Nat.add_sub_cancel, take_byte s k hs h1]
    unfold acc at h6 ⊢
    rw [List.foldl_append, ← h6 e]
    rfl

theorem FirstRel.stop {s : ByteArray} {h0 : 0 < s.size} {n k : Nat} {v : Int} (h : FirstRel s h0 n k v) (hn : lensOf s[0].toNat = n) (hk : k < n) (hs : s.size ≤ k ∨ ∃ hs : k < s.size, fol s[0].toNat s[k].toNat k = false) :
    one s.data.toList = (65533, k, false) := by
  obtain ⟨h1, h2, h3, h4, h5, h6, h7, h8, h9⟩ := h
  refine one_part s h0 n k hn ?_ (by omega)
  rw [h4]
  rcases hs with hs | ⟨hs, hf⟩
  · rw [drop_end s k hs, ext_nil]
  · rw [drop_byte s k hs, ext_bad _ _ _ _ _ hf]

theorem FirstRel.full {s : ByteArray} {h0 : 0 < s.size} {n k : Nat} {v : Int} (h : FirstRel s h0 n k v) (hn : lensOf s[0].toNat = n) (hk : ¬ k < n) :
    one s.data.toList = (v, k, decide (1 ≤ (n : Int))) := by
  obtain ⟨h1, h2, h3, h4, h5, h6, h7, h8, h9⟩ := h
  by_cases e : n = 0
  · subst e
    obtain rfl : k = 1 := by omega
    rw [one_part s h0 0 1 hn (by rw [h4, ext_full _ _ _ _ (by omega)]) (by omega), h5 rfl]
    rfl
  · obtain rfl : k = n := by omega
    rw [one_whole s h0 k hn (by rw [h4, ext_full _ _ _ _ (by omega)]), h6 h1]
    simp; omega

set_option maxHeartbeats 1000000 in
set_option maxRecDepth 100000 in
theorem first_any (s : ByteArray) (w : World) (h0 : 0 < s.size) (h1 : s.size ≤ 2000) :
    Calls Try.prog 17 #[.string s] w (FirstPost s w) := by
  have hmf : ∀ (fn : Fn) (first cap : Array Value) (w : World), (Instr.makeFunc fn first cap).run Try.prog w = .ok (.func fn first cap) w := fun _ _ _ _ => rfl
  have hu := s[0].toNat_lt
  obtain ⟨n, hn⟩ : ∃ n, lensOf s[0].toNat = n := ⟨_, rfl⟩
  have hn4 : n ≤ 4 := by rw [← hn]; exact lensOf_le _
  have HN := Lib.hid hn
  clear hn
  go_enter Try.func17, Try.ntmps17
  go_wp2_with (
    go_at_call 22
    refine (lead_any _ _ (by omega) (by omega)).mono ?_
    rintro e w1 ⟨rfl, hb⟩
    rw [HN.out]
    have hc0 : w1.cell? ⟨w.heap.size, 0, none⟩ = some (.int .i64 0) := by rw [hb.cell (by simp)]; simp
    have hf0 : w1.frozen? ⟨w.heap.size, 0, none⟩ = false := by rw [hb.frozen (by simp)]; simp
    have hz : w.heap.size < w1.heap.size := by have := hb.size; simp at this; omega
    have hz1 : w.heap.size < w1.heap.size + 1 := by omega)
  have HB := Lib.hid (And.intro hb (And.intro hc0 hf0))
  clear hb hc0 hf0
  go_loopw [5] (fun b wr => ∃ (k : Nat) (v : Int), b = .int .i32 v ∧ FirstRel s h0 n k v ∧ FirstAt w w1.heap.size s[0].toNat n k wr) (fun b wr => 4 - (match wr.cell? ⟨w.heap.size, 0, none⟩ with | some x => intOf x | none => 0).toNat)
  case atStart =>
    go_light
    obtain ⟨hb, hc0, hf0⟩ := HB.out
    refine ⟨1, _, rfl, FirstRel.start s h0 n HN.out, ?_⟩
    have hb' : Below w.heap.size w w1 := ((Below.refl _ _).alloc (Nat.le_refl _) _).trans (hb.mono (by simp))
    have hcs : (w1.setCell ⟨w.heap.size, 0, none⟩ (.int .i64 1)).cell? ⟨w.heap.size, 0, none⟩ = some (.int .i64 1) := World.cell?_setCell_same' _ _ _ (by rw [hc0]; rfl)
    constructor
    · exact ((hb'.setCell (Nat.le_refl _) _).alloc (by simp; omega) _).alloc (by simp; omega) _
    · exact hz
    · simp
    · rw [World.cell?_alloc_past _ _ _ (by simp; omega), World.cell?_alloc_past _ _ _ (by simp; omega), hcs]; rfl
    · rw [World.cell?_alloc_past _ _ _ (by simp), World.cell?_alloc_at _ _ _ _ (by simp)]; rfl
    · rw [World.cell?_alloc_at _ _ _ _ (by simp)]; rfl
    · rw [World.cell?_alloc_at _ _ _ _ (by simp)]; rfl
    · rw [World.frozen?_alloc_past _ _ _ (by simp; omega), World.frozen?_alloc_past _ _ _ (by simp; omega), World.frozen?_setCell, hf0]
    · rw [World.frozen?_alloc_at _ _ _ _ (by simp)]
    · rw [World.frozen?_alloc_at _ _ _ _ (by simp)]
  case round =>
    obtain ⟨k, v, rfl, hr, hw⟩ := hrel
    have hkb : 1 ≤ k ∧ k ≤ 4 ∧ k ≤ s.size ∧ 0 ≤ v ∧ v ≤ 17000000 ∧ (k < n → v < 262144) := by
      obtain ⟨h1, h2, h3, h4, h5, h6, h7, h8, h9⟩ := hr
      exact ⟨h1, by omega, h3, h7, h8, fun hk => by have := h9 (by omega); omega⟩
    obtain ⟨k1, k2, k3, v1, v2, v3⟩ := hkb
    have HR := Lib.hid hr
    have hsz := hw.size
    have hmo := hw.more
    have hlo := hw.lo0
    have hhi := hw.hi0
    have hb1 := hw.b1
    have hb2 : w.heap.size < wr.heap.size := by omega
    have hf0 := hw.f0
    have hf1 := hw.f1
    have hf2 := hw.f2
    have HW := Lib.hid hw
    clear hr hw
    by_cases hkn : k < n
    · have v4 := v3 hkn
      clear v3
      by_cases hks : k < s.size
      · have hku := s[k].toNat_lt
        have he : ((k : Int) == (s.size : Int)) = false := by rw [beq_eq_false_iff_ne]; omega
        by_cases hl : (s[k].toNat : Int) < lo s[0].toNat k
        · have hd : decide ((s[k].toNat : Int) < lo s[0].toNat k) = true := by simpa using hl
          have HF : Hid (fol s[0].toNat s[k].toNat k = false) := by
            show fol s[0].toNat s[k].toNat k = false
            simp [fol]; omega
          clear hl
          go_wp2_with (
            go_at_call 23
            refine (wanting_any _ _ _ _ _ hmo hsz (by omega) (by omega) (by omega) (by omega)).mono ?_
            rintro e w' ⟨rfl, rfl⟩)
          go_quiet (fail)
          go_wp2
          go_region
          all_goals
            go_wp2
            refine bodyPost_ret (v := .tuple #[.int .i32 65533, .int .i64 k, .bool false]) (by simp [results, Try.results17, go_sem, hsz]) rfl ?_
            go_light
            exact ⟨by rw [HR.out.stop HN.out hkn (Or.inr ⟨hks, HF.out⟩)], (below_drewN HW.out.below _).setCell (Nat.le_refl _) _⟩
        · by_cases hh : hi s[0].toNat k < (s[k].toNat : Int)
          · have hd : decide ((s[k].toNat : Int) < lo s[0].toNat k) = false := by simpa using hl
            have hd2 : decide (hi s[0].toNat k < (s[k].toNat : Int)) = true := by simpa using hh
            have HF : Hid (fol s[0].toNat s[k].toNat k = false) := by
              show fol s[0].toNat s[k].toNat k = false
              simp [fol]; omega
            clear hl hh
            go_wp2_with (
              go_at_call 23
              refine (wanting_any _ _ _ _ _ hmo hsz (by omega) (by omega) (by omega) (by omega)).mono ?_
              rintro e w' ⟨rfl, rfl⟩)
            go_quiet (fail)
            go_wp2
            go_region
            all_goals
              go_wp2
              refine bodyPost_ret (v := .tuple #[.int .i32 65533, .int .i64 k, .bool false]) (by simp [results, Try.results17, go_sem, hsz]) rfl ?_
              go_light
              exact ⟨by rw [HR.out.stop HN.out hkn (Or.inr ⟨hks, HF.out⟩)], (below_drewN HW.out.below _).setCell (Nat.le_refl _) _⟩
          · have hd : decide ((s[k].toNat : Int) < lo s[0].toNat k) = false := by simpa using hl
            have hd2 : decide (hi s[0].toNat k < (s[k].toNat : Int)) = false := by simpa using hh
            have HF : Hid (fol s[0].toNat s[k].toNat k = true) := by
              show fol s[0].toNat s[k].toNat k = true
              exact fol_iff.2 ⟨by omega, by omega⟩
            have hc1 : 128 ≤ (s[k].toNat : Int) := by have := lo_ge s[0].toNat k; omega
            have hc2 : (s[k].toNat : Int) ≤ 191 := by have := hi_le s[0].toNat k; omega
            clear hl hh
            go_wp2_with (
              go_at_call 23
              refine (wanting_any _ _ _ _ _ hmo hsz (by omega) (by omega) (by omega) (by omega)).mono ?_
              rintro e w' ⟨rfl, rfl⟩)
            go_quiet (fail)
            go_wp2_with (
              go_at_call 24
              refine (anyNext_below _).mono ?_
              rintro e w2 ⟨rfl, hw2⟩
              have hw2 : Below wr.heap.size wr w2 := (below_drewN (Below.refl _ _) nq).trans hw2
              have g0 := (hw2.cell (p := ⟨w.heap.size, 0, none⟩) hb2).trans hsz
              have g1 := (hw2.cell (p := ⟨w1.heap.size + 1, 0, none⟩) hb1).trans hlo
              have g2 := (hw2.cell (p := ⟨w1.heap.size + 1, 1, none⟩) hb1).trans hhi
              have g3 := (hw2.cell (p := ⟨w1.heap.size, 0, none⟩) (Nat.lt_trans (Nat.lt_succ_self _) hb1)).trans hmo
              have i0 := (hw2.frozen (p := ⟨w.heap.size, 0, none⟩) hb2).trans hf0
              have i1 := (hw2.frozen (p := ⟨w1.heap.size + 1, 0, none⟩) hb1).trans hf1
              have i2 := (hw2.frozen (p := ⟨w1.heap.size + 1, 1, none⟩) hb1).trans hf2
              have hne : ¬ w1.heap.size + 1 = w.heap.size := by omega
              have hne2 : ¬ w.heap.size = w1.heap.size + 1 := by omega)
            have HW3 := HW.out.next hw2 k1
            go_roundw
            case rel =>
              go_light
              refine ⟨k + 1, _, rfl, ?_, HW3⟩
              have e := HR.out.next hkn hn4 hks HF.out
              rwa [show 64 * v + ((s[k].toNat : Int) - 128) = v * 64 + (s[k].toNat : Int) % 64 by omega] at e
            case measure =>
              go_light
              rw [HW3.size, hsz]
              simp [intOf]; omega
      · have he : ((k : Int) == (s.size : Int)) = true := by rw [beq_iff_eq]; omega
        have HK : Hid (s.size ≤ k) := by show s.size ≤ k; omega
        go_wp2_with (
          go_at_call 23
          refine (wanting_any _ _ _ _ _ hmo hsz (by omega) (by omega) (by omega) (by omega)).mono ?_
          rintro e w' ⟨rfl, rfl⟩)
        go_quiet (fail)
        go_wp2
        go_region
        all_goals
          go_wp2
          refine bodyPost_ret (v := .tuple #[.int .i32 65533, .int .i64 k, .bool false]) (by simp [results, Try.results17, go_sem, hsz]) rfl ?_
          go_light
          exact ⟨by rw [HR.out.stop HN.out hkn (Or.inl HK.out)], (below_drewN HW.out.below _).setCell (Nat.le_refl _) _⟩
    · clear v3
      go_wp2_with (
        go_at_call 23
        refine (wanting_any _ _ _ _ _ hmo hsz (by omega) (by omega) (by omega) (by omega)).mono ?_
        rintro e w' ⟨rfl, rfl⟩)
      go_region
      go_wp2
      refine bodyPost_ret (v := .tuple #[.int .i32 v, .int .i64 k, .bool (decide (1 ≤ (n : Int)))]) (by simp [results, Try.results17, go_sem, hsz]) rfl ?_
      go_light
      exact ⟨by rw [HR.out.full HN.out hkn], (HW.out.below.setCell (Nat.le_refl _) _).drew⟩
end Go.Proofs.Ytbehfaeckepplaa

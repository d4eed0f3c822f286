/-
  In this text, one behind the other: YHex, YRun, YText, YText2.
-/
import Derived.BigQuiet
import Derived.Deep.AppendLies
import Derived.Deep.Light
import Derived.Deep.QuietTactic
import Derived.Deep.RegionHeld3
import Derived.Deep.RegionWith
import Derived.IntWalk
import Derived.LaidEql
import Derived.Laws.BitsLemmas
import Derived.Laws.Cover4
import Derived.Lib.Hide
import Derived.Maps.AppendAt
import Derived.RowKitTokens
import Derived.Stop.Asserts
import Derived.WalkKit
import Derived.WalkLawsBesides
import Derived.WalkSpells
import Derived.Test.YtliklhldlofnjaaDoorRows
import Derived.Test.YtliklhldlofnjaaDoorG3
import Derived.Test.YtliklhldlofnjaaDoorG1
import Derived.Test.YtliklhldlofnjaaDoorG7
/-
  The document's Hex and run of layer 8, by their contracts.
-/
namespace Go.Proofs.YtliklhldlofnjaaDoor
open Go.RowKit

theorem fig16 : ∀ n : Fin 16, (⟨#[48, 49, 50, 51, 52, 53, 54, 55, 56, 57, 97, 98, 99, 100, 101, 102]⟩ : ByteArray).extract n.val (n.val + 1) = btx [hexd n.val] := by decide +kernel
theorem hex8_small {n : Nat} (h : n < 16) : hex8 n = [hexd n] := by unfold hex8; rw [if_pos h]
theorem hex8_more {n : Nat} (h : ¬ n < 16) : hex8 n = hex8 (n / 16) ++ [hexd (n % 16)] := by
  conv => lhs; unfold hex8
  rw [if_neg h]
theorem btx_app8 (a b : List UInt8) : btx (a ++ b) = btx a ++ btx b := by
  apply ByteArray.ext
  rw [ByteArray.data_append]
  apply Array.toList_inj.1
  simp [btx]
def Quiet8 (s : ByteArray) (w : World) (e : Ending) (w' : World) : Prop := e = .returned (.string s) ∧ Below w.heap.size w w'
theorem below_drew8 {w w1 : World} (h : Below w.drew.heap.size w.drew w1) : Below w.heap.size w w1 := (below_drewN (Below.refl _ w) 1).trans h

set_option maxHeartbeats 1000000 in
set_option maxRecDepth 100000 in
theorem hex_small (n : Nat) (w : World) (hn : n < 16) : Calls Tryd.prog 40 #[.int .u16 (n : Int)] w (Quiet8 (btx (hex8 n)) w) := by
  have HF := Lib.hid (fig16 ⟨n, hn⟩)
  have HR : Hid (btx (hex8 n) = btx [hexd n]) := by show btx (hex8 n) = btx [hexd n]; rw [hex8_small hn]
  go_enter Tryd.func40, Tryd.ntmps40
  go_wp2
  go_ret
  refine ⟨?_, Below.refl _ _⟩
  rw [HR.out, ← HF.out]; rfl

set_option maxHeartbeats 1000000 in
set_option maxRecDepth 100000 in
theorem hex_more (n : Nat) (w : World) (hn : ¬ n < 16) (h6 : n < 65536) (ih : ∀ w, Calls Tryd.prog 40 #[.int .u16 ((n / 16 : Nat) : Int)] w (Quiet8 (btx (hex8 (n / 16))) w)) :
    Calls Tryd.prog 40 #[.int .u16 (n : Int)] w (Quiet8 (btx (hex8 n)) w) := by
  obtain ⟨q, hq⟩ : ∃ q, n / 16 = q := ⟨_, rfl⟩
  obtain ⟨r, hr⟩ : ∃ r, n % 16 = r := ⟨_, rfl⟩
  have hr1 : r < 16 := by omega
  have hq1 : q < 65536 := by omega
  have HF := Lib.hid (fig16 ⟨r, hr1⟩)
  have hl : (btx (hex8 q)).size ≤ 4 := by rw [btx_size]; exact (hex8_four (by omega)).2
  obtain ⟨t, ht⟩ : ∃ t, btx (hex8 q) = t := ⟨_, rfl⟩
  have HR : Hid (btx (hex8 n) = t ++ btx [hexd r]) := by show btx (hex8 n) = t ++ btx [hexd r]; rw [hex8_more hn, btx_app8, hq, hr, ht]
  rw [hq, ht] at ih
  rw [ht] at hl
  have hd1 : (n : Int).tdiv 16 = (q : Int) := by rw [Int.tdiv_eq_ediv_of_nonneg (by omega)]; omega
  have hd2 : (n : Int).tmod 16 = (r : Int) := by rw [Int.tmod_eq_emod_of_nonneg (by omega)]; omega
  have hd3 : (n : Int) / 16 = (q : Int) := by omega
  have hd4 : (n : Int) % 16 = (r : Int) := by omega
  have hw1 : IntKind.u16.wrap (q : Int) = (q : Int) := by simp [IntKind.wrap, IntKind.bits, IntKind.signed]; omega
  have hw2 : IntKind.u16.wrap (r : Int) = (r : Int) := by simp [IntKind.wrap, IntKind.bits, IntKind.signed]; omega
  have hw3 : IntKind.u16.wrap ((r : Int) + 1) = (r : Int) + 1 := by simp [IntKind.wrap, IntKind.bits, IntKind.signed]; omega
  have ht1 : ((r : Int) + 1).toNat = r + 1 := by omega
  have hb0 : (0 : Int) ≤ (r : Int) := by omega
  have hb1 : (r : Int) ≤ (r : Int) + 1 := by omega
  have hb2 : (r : Int) + 1 ≤ 16 := by omega
  have HIh := Lib.hid ih
  clear ih ht hq hr
  go_enter Tryd.func40, Tryd.ntmps40
  go_wp2_with fail
  go_region_with (first
    | (go_at_call 40; (with_reducible refine (HIh.out _).mono ?_); rintro e w1 ⟨rfl, hb1⟩; have HB1 := Lib.hid (below_drew8 hb1); clear hb1))
  all_goals
    go_wp2
    go_ret
    refine ⟨?_, HB1.out⟩
    rw [HR.out, ← HF.out]; rfl
theorem hex_any : ∀ (n : Nat) (w : World), n < 65536 → Calls Tryd.prog 40 #[.int .u16 (n : Int)] w (Quiet8 (btx (hex8 n)) w) := by
  intro n
  induction n using Nat.strongRecOn with
  | ind n ih =>
    intro w hn
    by_cases h : n < 16
    · exact hex_small n w h
    · exact hex_more n w h hn (fun w => ih (n / 16) (by omega) w (by omega))
end Go.Proofs.YtliklhldlofnjaaDoor

/-
  The document's run of layer 8, by its contract.
-/
namespace Go.Proofs.YtliklhldlofnjaaDoor
open Go.RowKit

/-- An address as a value. -/
def addr8 (a0 a1 a2 a3 a4 a5 a6 a7 : Nat) : Value := .agg #[.int .u16 (a0 : Int), .int .u16 (a1 : Int), .int .u16 (a2 : Int), .int .u16 (a3 : Int), .int .u16 (a4 : Int), .int .u16 (a5 : Int), .int .u16 (a6 : Int), .int .u16 (a7 : Int)]
theorem run8_is {l : List Nat} {k : Nat} (h : ∀ j, j < k → l[j]? = some 0) (he : k = l.length ∨ ∃ x, l[k]? = some x ∧ x ≠ 0) : run8 l = k := by
  induction l generalizing k with
  | nil =>
    rcases he with he | ⟨x, hx, _⟩
    · exact he.symm
    · simp at hx
  | cons a l ih =>
    unfold run8
    cases k with
    | zero =>
      rcases he with he | ⟨x, hx, hne⟩
      · simp at he
      · simp at hx; subst hx; rw [if_neg hne]
    | succ k =>
      have h0 := h 0 (by omega)
      simp at h0
      rw [if_pos h0, ih (k := k) (fun j hj => by have := h (j + 1) (by omega); simpa using this)]
      rcases he with he | ⟨x, hx, hne⟩
      · exact .inl (by simpa using he)
      · exact .inr ⟨x, by simpa using hx, hne⟩
theorem eight_at {a0 a1 a2 a3 a4 a5 a6 a7 : Nat} (w : World) (t : TypeId) : ∀ k, k < 8 → (w.alloc (.cells #[.int .u16 (a0 : Int), .int .u16 (a1 : Int), .int .u16 (a2 : Int), .int .u16 (a3 : Int), .int .u16 (a4 : Int), .int .u16 (a5 : Int), .int .u16 (a6 : Int), .int .u16 (a7 : Int)] t)).cell? ⟨w.heap.size, k, none⟩ = some (.int .u16 (([a0, a1, a2, a3, a4, a5, a6, a7].getD k 0 : Nat) : Int)) := by
  intro k hk
  rw [World.cell?_alloc_at _ _ _ _ rfl]
  match k, hk with
  | 0, _ => rfl
  | 1, _ => rfl
  | 2, _ => rfl
  | 3, _ => rfl
  | 4, _ => rfl
  | 5, _ => rfl
  | 6, _ => rfl
  | 7, _ => rfl
theorem getD_at8 {l : List Nat} {k : Nat} (h : k < l.length) : l[k]? = some (l.getD k 0) := by
  rw [List.getD_eq_getElem?_getD, List.getElem?_eq_getElem h]; rfl

set_option maxHeartbeats 2000000 in
set_option maxRecDepth 100000 in
theorem run_any (a0 a1 a2 a3 a4 a5 a6 a7 i : Nat) (w : World) (hi : i ≤ 8) (hl : ∀ n ∈ [a0, a1, a2, a3, a4, a5, a6, a7], n < 65536) :
    Calls Tryd.prog 39 #[addr8 a0 a1 a2 a3 a4 a5 a6 a7, .int .i64 (i : Int)] w fun e w' => e = .returned (.int .i64 (run8 ([a0, a1, a2, a3, a4, a5, a6, a7].drop i) : Nat)) ∧ Below w.heap.size w w' := by
  have HC := Lib.hid (eight_at (a0 := a0) (a1 := a1) (a2 := a2) (a3 := a3) (a4 := a4) (a5 := a5) (a6 := a6) (a7 := a7) w 24)
  obtain ⟨l, hll⟩ : ∃ l, [a0, a1, a2, a3, a4, a5, a6, a7] = l := ⟨_, rfl⟩
  have hlen : l.length = 8 := by rw [← hll]; rfl
  have HLen := Lib.hid hlen
  rw [hll] at HC hl ⊢
  have HL := Lib.hid hl
  clear hll hlen hl
  unfold addr8
  go_enter Tryd.func39, Tryd.ntmps39
  go_wp2
  obtain ⟨W, hW⟩ : ∃ W, w.alloc (.cells #[.int .u16 (a0 : Int), .int .u16 (a1 : Int), .int .u16 (a2 : Int), .int .u16 (a3 : Int), .int .u16 (a4 : Int), .int .u16 (a5 : Int), .int .u16 (a6 : Int), .int .u16 (a7 : Int)] 24) = W := ⟨_, rfl⟩
  have HB : Hid (Below w.heap.size w W) := by show Below w.heap.size w W; rw [← hW]; exact (Below.refl _ _).alloc (Nat.le_refl _) _
  rw [hW] at HC ⊢
  clear hW
  go_loopw [5] (fun v5 wr => ∃ k : Nat, i + k ≤ 8 ∧ v5 = .int .i64 k ∧ wr = W ∧ ∀ j, j < k → (l.drop i)[j]? = some 0) (fun v5 _ => 8 - (intOf v5).toNat)
  case atStart => exact ⟨0, by omega, rfl, rfl, fun j hj => by omega⟩
  case round =>
    obtain ⟨k, hk, rfl, hw, hno⟩ := hrel
    have hw' := hw.symm
    subst hw'
    have HN := Lib.hid hno
    clear hw hno
    by_cases hlt : i + k < 8
    · have hc := HC.out (i + k) hlt
      have HG := Lib.hid (getD_at8 (l := l) (k := i + k) (by rw [HLen.out]; exact hlt))
      have hx6 := HL.out (l.getD (i + k) 0) (by rw [List.getD_eq_getElem?_getD, List.getElem?_eq_getElem (by rw [HLen.out]; exact hlt)]; exact List.getElem_mem _)
      obtain ⟨x, hx⟩ : ∃ x, l.getD (i + k) 0 = x := ⟨_, rfl⟩
      rw [hx] at hc HG hx6
      clear hx
      by_cases hx0 : x = 0
      · subst hx0
        go_wp2
        go_roundw
        case rel =>
          refine ⟨k + 1, by omega, by go_num, by first | rfl | trivial, fun j hj => ?_⟩
          rcases Nat.lt_or_ge j k with h | h
          · exact HN.out j h
          · obtain rfl : j = k := by omega
            rw [List.getElem?_drop]; exact HG.out
        case measure => simp [intOf]; omega
      · have HE := Lib.hid (run8_is HN.out (.inr ⟨x, by rw [List.getElem?_drop]; exact HG.out, hx0⟩))
        have hx1 : ((x : Int) == 0) = false := beq_eq_false_iff_ne.2 (by omega)
        go_wp2
        go_ret
        exact ⟨by rw [HE.out]; rfl, HB.out⟩
    · have HE := Lib.hid (run8_is HN.out (.inl (by rw [List.length_drop, HLen.out]; omega)))
      have hki : ¬ (i : Int) + (k : Int) < 8 := by omega
      go_wp2
      go_ret
      exact ⟨by rw [HE.out]; rfl, HB.out⟩
end Go.Proofs.YtliklhldlofnjaaDoor

/-
  The document's Text of layer 8, by its contract.
-/
namespace Go.Proofs.YtliklhldlofnjaaDoor
open Go.RowKit

/-- What is left of a text from a piece on, without a pair of colons. -/
def restA (l : List Nat) (i : Nat) : List UInt8 := (if 0 < i ∧ i < l.length then [58] else []) ++ join8 (l.drop i)
theorem restA_step {l : List Nat} {i : Nat} (h : i < l.length) : restA l i = (if 0 < i then [58] else []) ++ hex8 (l.getD i 0) ++ restA l (i + 1) := by
  have hg : l.getD i 0 = l[i] := by rw [List.getD_eq_getElem?_getD, List.getElem?_eq_getElem h]; rfl
  unfold restA
  rw [List.drop_eq_getElem_cons h, hg]
  by_cases h1 : i + 1 < l.length
  · rw [List.drop_eq_getElem_cons h1, join8]
    by_cases h0 : 0 < i
    · rw [if_pos ⟨h0, h⟩, if_pos h0, if_pos ⟨by omega, h1⟩]; simp
    · rw [if_neg (by omega), if_neg h0, if_pos ⟨by omega, h1⟩]; simp
  · have hd : l.drop (i + 1) = [] := List.drop_eq_nil_of_le (by omega)
    rw [hd, join8]
    by_cases h0 : 0 < i
    · rw [if_pos ⟨h0, h⟩, if_pos h0, if_neg (by omega)]; simp [join8]
    · rw [if_neg (by omega), if_neg h0, if_neg (by omega)]; simp [join8]
theorem restA_zero (l : List Nat) : restA l 0 = join8 l := by unfold restA; simp
theorem restA_end {l : List Nat} {i : Nat} (h : l.length ≤ i) : restA l i = [] := by
  unfold restA
  rw [if_neg (by omega), List.drop_eq_nil_of_le h]; rfl
/-- With a pair of colons for n noughts at b. -/
def restB (l : List Nat) (b n i : Nat) : List UInt8 :=
  if i ≤ b then restA (l.take b) i ++ 58 :: 58 :: join8 (l.drop (b + n)) else restA (l.drop (b + n)) (i - (b + n))
theorem restB_le {l : List Nat} {b n i : Nat} (h : i ≤ b) : restB l b n i = restA (l.take b) i ++ 58 :: 58 :: join8 (l.drop (b + n)) := by unfold restB; rw [if_pos h]
theorem restB_gt {l : List Nat} {b n i : Nat} (h : ¬ i ≤ b) : restB l b n i = restA (l.drop (b + n)) (i - (b + n)) := by unfold restB; rw [if_neg h]
theorem text8_A {l : List Nat} {b n : Nat} (hb : cutAt l = b) (hn : run8 (l.drop b) = n) (h : n < 2) : text8 l = restA l 0 := by
  unfold text8
  rw [hb, hn, if_pos h, restA_zero]
theorem text8_B {l : List Nat} {b n : Nat} (hb : cutAt l = b) (hn : run8 (l.drop b) = n) (h : ¬ n < 2) : text8 l = restB l b n 0 := by
  unfold text8 restB
  rw [hb, hn, if_neg h, if_pos (by omega), restA_zero]
theorem restB_ahead {l : List Nat} {b n i : Nat} (hb : b ≤ l.length) (h : i < b) : restB l b n i = (if 0 < i then [58] else []) ++ hex8 (l.getD i 0) ++ restB l b n (i + 1) := by
  have hl : (l.take b).length = b := by rw [List.length_take]; omega
  have hg : (l.take b).getD i 0 = l.getD i 0 := by
    rw [List.getD_eq_getElem?_getD, List.getD_eq_getElem?_getD, List.getElem?_take, if_pos h]
  rw [restB_le (i := i) (by omega), restB_le (i := i + 1) (by omega), restA_step (by omega), hg]
  simp
theorem restB_here {l : List Nat} {b n : Nat} (hb : b ≤ l.length) (hn : 2 ≤ n) : restB l b n b = [58, 58] ++ restB l b n (b + n) := by
  have hl : (l.take b).length = b := by rw [List.length_take]; omega
  unfold restB
  rw [if_pos (Nat.le_refl _), if_neg (by omega), restA_end (by omega), Nat.sub_self, restA_zero]
  rfl
theorem restB_behind {l : List Nat} {b n i : Nat} (hn : 2 ≤ n) (h : b + n ≤ i) (hi : i < l.length) : restB l b n i = (if b + n < i then [58] else []) ++ hex8 (l.getD i 0) ++ restB l b n (i + 1) := by
  have hl : (l.drop (b + n)).length = l.length - (b + n) := List.length_drop
  have hg : (l.drop (b + n)).getD (i - (b + n)) 0 = l.getD i 0 := by
    rw [List.getD_eq_getElem?_getD, List.getD_eq_getElem?_getD, List.getElem?_drop, show b + n + (i - (b + n)) = i by omega]
  rw [restB_gt (i := i) (by omega), restB_gt (i := i + 1) (by omega), restA_step (by omega), hg, show i + 1 - (b + n) = i - (b + n) + 1 by omega]
  by_cases h2 : b + n < i
  · rw [if_pos (by omega), if_pos h2]
  · rw [if_neg (by omega), if_neg h2]
theorem restB_end {l : List Nat} {b n i : Nat} (hi : l.length ≤ i) (hb : b < i) : restB l b n i = [] := by
  unfold restB
  rw [if_neg (by omega), restA_end (by rw [List.length_drop]; omega)]
theorem run_is {a0 a1 a2 a3 a4 a5 a6 a7 i : Nat} {l : List Nat} {r : Nat} (hl : [a0, a1, a2, a3, a4, a5, a6, a7] = l) (hr : run8 (l.drop i) = r) (w : World) (hi : i ≤ 8) (h6 : ∀ n ∈ l, n < 65536) :
    Calls Tryd.prog 39 #[.agg #[.int .u16 (a0 : Int), .int .u16 (a1 : Int), .int .u16 (a2 : Int), .int .u16 (a3 : Int), .int .u16 (a4 : Int), .int .u16 (a5 : Int), .int .u16 (a6 : Int), .int .u16 (a7 : Int)], .int .i64 (i : Int)] w fun e w' => e = .returned (.int .i64 (r : Int)) ∧ Below w.heap.size w w' := by
  subst hl hr
  exact run_any a0 a1 a2 a3 a4 a5 a6 a7 i w hi h6
theorem hex_is {n : Nat} {t : ByteArray} (h : btx (hex8 n) = t) (hn : n < 65536) (w : World) : Calls Tryd.prog 40 #[.int .u16 (n : Int)] w fun e w' => e = .returned (.string t) ∧ Below w.heap.size w w' := by
  have := hex_any n w hn
  rw [h] at this
  exact this
end Go.Proofs.YtliklhldlofnjaaDoor

/-
  The document's Text of layer 8: the walk.
-/
namespace Go.Proofs.YtliklhldlofnjaaDoor
open Go.RowKit

theorem bnx8 {W a b : World} (h : Below W.heap.size W a) (k : Below a.heap.size a b) : Below W.heap.size W b := h.trans (k.mono h.size)
theorem bnxd8 {W a b : World} (h : Below W.heap.size W a) (k : Below a.drew.heap.size a.drew b) : Below W.heap.size W b := bnx8 h (below_drew8 k)
theorem best8_step (l : List Nat) (k i b : Nat) : best8 l (k + 1) i b = best8 l k (i + 1) (if run8 (l.drop b) < run8 (l.drop i) then i else b) := rfl

set_option maxHeartbeats 4000000 in
set_option maxRecDepth 100000 in
theorem text8_any (a0 a1 a2 a3 a4 a5 a6 a7 : Nat) (w : World) (h6 : ∀ n ∈ [a0, a1, a2, a3, a4, a5, a6, a7], n < 65536) :
    Calls Tryd.prog 30 #[addr8 a0 a1 a2 a3 a4 a5 a6 a7] w (Quiet8 (btx (text8 [a0, a1, a2, a3, a4, a5, a6, a7])) w) := by
  obtain ⟨g, hg⟩ : ∃ g, w.heap.size = g := ⟨_, rfl⟩
  obtain ⟨W, hW⟩ : ∃ W, w.alloc (.cells #[.int .u16 (a0 : Int), .int .u16 (a1 : Int), .int .u16 (a2 : Int), .int .u16 (a3 : Int), .int .u16 (a4 : Int), .int .u16 (a5 : Int), .int .u16 (a6 : Int), .int .u16 (a7 : Int)] 24) = W := ⟨_, rfl⟩
  have HB0 : Hid (Below w.heap.size w W) := by show Below w.heap.size w W; rw [← hW]; exact (Below.refl _ _).alloc (Nat.le_refl _) _
  have hlt : g < W.heap.size := by rw [← hW, ← hg]; simp
  have HCs : Hid (∀ wx, Below W.heap.size W wx → (wx.cell? ⟨g, 0, none⟩ = some (.int .u16 (a0 : Int)) ∧ wx.cell? ⟨g, 1, none⟩ = some (.int .u16 (a1 : Int)) ∧ wx.cell? ⟨g, 2, none⟩ = some (.int .u16 (a2 : Int)) ∧ wx.cell? ⟨g, 3, none⟩ = some (.int .u16 (a3 : Int)) ∧ wx.cell? ⟨g, 4, none⟩ = some (.int .u16 (a4 : Int)) ∧ wx.cell? ⟨g, 5, none⟩ = some (.int .u16 (a5 : Int)) ∧ wx.cell? ⟨g, 6, none⟩ = some (.int .u16 (a6 : Int)) ∧ wx.cell? ⟨g, 7, none⟩ = some (.int .u16 (a7 : Int)))) := by
    intro wx hx
    refine ⟨?_, ?_, ?_, ?_, ?_, ?_, ?_, ?_⟩
    all_goals
      refine (hx.cell (p := ⟨g, _, none⟩) hlt).trans ?_
      rw [← hW, ← hg, World.cell?_alloc_at _ _ _ _ rfl]
      rfl
  have HCk : Hid (∀ wx k, Below W.heap.size W wx → k < 8 → wx.cell? ⟨g, k, none⟩ = some (.int .u16 (([a0, a1, a2, a3, a4, a5, a6, a7].getD k 0 : Nat) : Int))) := by
    intro wx k hx hk
    refine (hx.cell (p := ⟨g, k, none⟩) hlt).trans ?_
    rw [← hW, ← hg]
    exact eight_at w _ k hk
  obtain ⟨l, hl⟩ : ∃ l, [a0, a1, a2, a3, a4, a5, a6, a7] = l := ⟨_, rfl⟩
  have HL := Lib.hid hl
  have HLen : Hid (l.length = 8) := by show l.length = 8; rw [← hl]; rfl
  rw [hl] at h6 HCk ⊢
  have H6 := Lib.hid h6
  clear h6 hl
  unfold addr8
  go_enter Tryd.func30, Tryd.ntmps30
  go_wp2
  try rw [hW]
  try simp only [hg]
  clear hW hg
  go_loopw [3, 4] (fun v3 v4 wr => ∃ i b : Nat, i ≤ 8 ∧ b < 8 ∧ v3 = .int .i64 b ∧ v4 = .int .i64 i ∧ Below W.heap.size W wr ∧ best8 l (8 - i) i b = cutAt l) (fun _ v4 _ => 8 - (intOf v4).toNat)
  case atStart => exact ⟨0, 0, by omega, by omega, rfl, rfl, Below.refl _ _, rfl⟩
  case round =>
    obtain ⟨i, b, hi, hb8, rfl, rfl, hb, hbest⟩ := hrel
    have HBc := Lib.hid hb
    have hS := HCs.out _ hb
    have HBe := Lib.hid hbest
    clear hb hbest
    by_cases hlt8 : i < 8
    · obtain ⟨ri, hri⟩ : ∃ r, run8 (l.drop i) = r := ⟨_, rfl⟩
      obtain ⟨rb, hrb⟩ : ∃ r, run8 (l.drop b) = r := ⟨_, rfl⟩
      have HRi := Lib.hid hri
      have HRb := Lib.hid hrb
      have hil : ri ≤ 8 := by have := run8_le (l.drop i); rw [hri, List.length_drop, HLen.out] at this; omega
      have hbl : rb ≤ 8 := by have := run8_le (l.drop b); rw [hrb, List.length_drop, HLen.out] at this; omega
      have HBe2 : Hid (best8 l (8 - (i + 1)) (i + 1) (if rb < ri then i else b) = cutAt l) := by
        show best8 l (8 - (i + 1)) (i + 1) (if rb < ri then i else b) = cutAt l
        rw [← HBe.out, show 8 - i = (8 - (i + 1)) + 1 by omega, best8_step, hri, hrb]
      clear hri hrb
      go_wp2_with fail
      obtain ⟨s0, s1, s2, s3, s4, s5, s6, s7⟩ := hS
      go_region_held3 (fun wx => wx.cell? ⟨g, 0, none⟩ = some (.int .u16 (a0 : Int)) ∧ wx.cell? ⟨g, 1, none⟩ = some (.int .u16 (a1 : Int)) ∧ wx.cell? ⟨g, 2, none⟩ = some (.int .u16 (a2 : Int)) ∧ wx.cell? ⟨g, 3, none⟩ = some (.int .u16 (a3 : Int)) ∧ wx.cell? ⟨g, 4, none⟩ = some (.int .u16 (a4 : Int)) ∧ wx.cell? ⟨g, 5, none⟩ = some (.int .u16 (a5 : Int)) ∧ wx.cell? ⟨g, 6, none⟩ = some (.int .u16 (a6 : Int)) ∧ wx.cell? ⟨g, 7, none⟩ = some (.int .u16 (a7 : Int))) (first | exact ⟨s0, s1, s2, s3, s4, s5, s6, s7⟩ | exact hS1 | exact hS2 | go_keep) (first
        | (go_at_call 39; (with_reducible refine (run_is HL.out HRi.out _ (by omega) H6.out).mono ?_); rintro e w1 ⟨rfl, hb1⟩; (first | have HBc := Lib.hid (bnx8 HBc.out hb1) | have HBc := Lib.hid (bnxd8 HBc.out hb1)); have hS1 := HCs.out _ HBc.out; clear hb1)
        | (go_at_call 39; (with_reducible refine (run_is HL.out HRb.out _ (by omega) H6.out).mono ?_); rintro e w2 ⟨rfl, hb2⟩; (first | have HBc := Lib.hid (bnx8 HBc.out hb2) | have HBc := Lib.hid (bnxd8 HBc.out hb2)); have hS2 := HCs.out _ HBc.out; clear hb2))
      by_cases hrr : rb < ri
      · rw [if_pos hrr] at HBe2
        go_wp2
        go_roundw
        case rel => exact ⟨i + 1, i, by omega, by omega, by first | rfl | go_num, by go_num, HBc.out, HBe2.out⟩
        case measure => simp [intOf]; omega
      · rw [if_neg hrr] at HBe2
        go_wp2
        go_roundw
        case rel => exact ⟨i + 1, b, by omega, by omega, by first | rfl | go_num, by go_num, HBc.out, HBe2.out⟩
        case measure => simp [intOf]; omega
    · have HCut : Hid (cutAt l = b) := by
        show cutAt l = b
        rw [← HBe.out, show 8 - i = 0 by omega]; rfl
      obtain ⟨n, hn⟩ : ∃ n, run8 (l.drop b) = n := ⟨_, rfl⟩
      have hnl : b + n ≤ 8 := by have := run8_le (l.drop b); rw [hn, List.length_drop, HLen.out] at this; omega
      have HRn := Lib.hid hn
      have HTl := Lib.hid (text8_len HLen.out H6.out).2
      obtain ⟨T, hT⟩ : ∃ T, text8 l = T := ⟨_, rfl⟩
      have HT := Lib.hid hT
      rw [hT] at HTl
      obtain ⟨s0, s1, s2, s3, s4, s5, s6, s7⟩ := hS
      clear HBe hT hn
      by_cases hn2 : n < 2
      · have HA : Hid (T = restA l 0) := by show T = restA l 0; rw [← HT.out]; exact text8_A HCut.out HRn.out hn2
        go_wp2_with (go_at_call 39; (with_reducible refine (run_is HL.out HRn.out _ (by omega) H6.out).mono ?_); rintro e w3 ⟨rfl, hb3⟩; have HBc := Lib.hid (bnx8 HBc.out hb3); clear hb3)
        clear s0 s1 s2 s3 s4 s5 s6 s7
        go_loopw [6, 7] (fun v6 v7 wr => ∃ (j : Nat) (t : List UInt8), j ≤ 8 ∧ v6 = .string (btx t) ∧ v7 = .int .i64 j ∧ Below W.heap.size W wr ∧ T = t ++ restA l j) (fun _ v7 _ => 8 - (intOf v7).toNat)
        case atStart => exact ⟨0, [], by omega, rfl, rfl, HBc.out, HA.out⟩
        case round =>
          obtain ⟨j, t, hj, rfl, rfl, hb, hst⟩ := hrel
          have htl : t.length ≤ 39 := by have := HTl.out; rw [hst, List.length_append] at this; omega
          by_cases hj8 : j < 8
          · rw [restA_step (by rw [HLen.out]; exact hj8)] at hst
            have hck := HCk.out _ j hb hj8
            have HBd := Lib.hid hb
            have HG := Lib.hid (getD_at8 (l := l) (k := j) (by rw [HLen.out]; exact hj8))
            have hx6 := H6.out (l.getD j 0) (by rw [List.getD_eq_getElem?_getD, List.getElem?_eq_getElem (by rw [HLen.out]; exact hj8)]; exact List.getElem_mem _)
            have HSt0 := Lib.hid hst
            obtain ⟨x, hx⟩ : ∃ x, l.getD j 0 = x := ⟨_, rfl⟩
            rw [hx] at hck hx6 HSt0
            obtain ⟨th, hth⟩ : ∃ th, btx (hex8 x) = th := ⟨_, rfl⟩
            have hths : th.size ≤ 4 := by rw [← hth, btx_size]; exact (hex8_four hx6).2
            have HTh := Lib.hid hth
            obtain ⟨sv, hsv⟩ : ∃ sv, btx t = sv := ⟨_, rfl⟩
            have hsvs : sv.size ≤ 39 := by rw [← hsv, btx_size]; exact htl
            have HSv := Lib.hid hsv
            rw [hsv]
            clear hx hth hsv hst hb htl
            by_cases hj0 : 0 < j
            · rw [if_pos hj0] at HSt0
              go_wp2_with (go_at_call 40; refine (hex_is HTh.out hx6 _).mono ?_; rintro e w5 ⟨rfl, hb5⟩; have HB5 := Lib.hid (bnx8 HBd.out hb5); clear hb5)
              go_roundw
              case rel => exact ⟨j + 1, t ++ ([58] ++ hex8 x), by omega, by rw [btx_app8, btx_app8, HSv.out, HTh.out, ← ByteArray.append_assoc]; rfl, by go_num, HB5.out, by rw [HSt0.out]; simp⟩
              case measure => simp [intOf]; omega
            · rw [if_neg hj0] at HSt0
              go_wp2_with (go_at_call 40; refine (hex_is HTh.out hx6 _).mono ?_; rintro e w5 ⟨rfl, hb5⟩; have HB5 := Lib.hid (bnx8 HBd.out hb5); clear hb5)
              go_roundw
              case rel => exact ⟨j + 1, t ++ hex8 x, by omega, by rw [btx_app8, HSv.out, HTh.out], by go_num, HB5.out, by rw [HSt0.out]; simp⟩
              case measure => simp [intOf]; omega
          · have HE : Hid (T = t) := by show T = t; rw [hst, restA_end (by rw [HLen.out]; omega), List.append_nil]
            have HBd := Lib.hid hb
            clear hst hb
            go_wp2
            go_ret
            exact ⟨by rw [HT.out, HE.out]; rfl, HB0.out.trans (HBd.out.mono HB0.out.size)⟩
      · have HA : Hid (T = restB l b n 0) := by show T = restB l b n 0; rw [← HT.out]; exact text8_B HCut.out HRn.out hn2
        have hbl : b ≤ l.length := by rw [HLen.out]; omega
        have HBl := Lib.hid hbl
        clear hbl
        go_wp2_with (go_at_call 39; (with_reducible refine (run_is HL.out HRn.out _ (by omega) H6.out).mono ?_); rintro e w3 ⟨rfl, hb3⟩; have HBc := Lib.hid (bnx8 HBc.out hb3); clear hb3)
        clear s0 s1 s2 s3 s4 s5 s6 s7
        go_loopw [6, 7] (fun v6 v7 wr => ∃ (j : Nat) (t : List UInt8), j ≤ 8 ∧ (j ≤ b ∨ b + n ≤ j) ∧ v6 = .string (btx t) ∧ v7 = .int .i64 j ∧ Below W.heap.size W wr ∧ T = t ++ restB l b n j) (fun _ v7 _ => 8 - (intOf v7).toNat)
        case atStart => exact ⟨0, [], by omega, by omega, rfl, rfl, HBc.out, HA.out⟩
        case round =>
          obtain ⟨j, t, hj, hjb, rfl, rfl, hb, hst⟩ := hrel
          have htl : t.length ≤ 39 := by have := HTl.out; rw [hst, List.length_append] at this; omega
          by_cases hj8 : j < 8
          · by_cases hjl : j < b
            · rw [restB_ahead HBl.out hjl] at hst
              have hck := HCk.out _ j hb hj8
              have HBd := Lib.hid hb
              have hx6 := H6.out (l.getD j 0) (by rw [List.getD_eq_getElem?_getD, List.getElem?_eq_getElem (by rw [HLen.out]; exact hj8)]; exact List.getElem_mem _)
              have HSt0 := Lib.hid hst
              obtain ⟨x, hx⟩ : ∃ x, l.getD j 0 = x := ⟨_, rfl⟩
              rw [hx] at hck hx6 HSt0
              obtain ⟨th, hth⟩ : ∃ th, btx (hex8 x) = th := ⟨_, rfl⟩
              have hths : th.size ≤ 4 := by rw [← hth, btx_size]; exact (hex8_four hx6).2
              have HTh := Lib.hid hth
              obtain ⟨sv, hsv⟩ : ∃ sv, btx t = sv := ⟨_, rfl⟩
              have hsvs : sv.size ≤ 39 := by rw [← hsv, btx_size]; exact htl
              have HSv := Lib.hid hsv
              rw [hsv]
              clear hx hth hsv hst hb htl
              have hje : ((j : Int) == (b : Int)) = false := beq_eq_false_iff_ne.2 (by omega)
              have hjn : ((j : Int) != (b : Int) + (n : Int)) = true := bne_iff_ne.2 (by omega)
              by_cases hj0 : 0 < j
              · rw [if_pos hj0] at HSt0
                go_wp2_with (go_at_call 40; refine (hex_is HTh.out hx6 _).mono ?_; rintro e w5 ⟨rfl, hb5⟩; have HB5 := Lib.hid (bnx8 HBd.out hb5); clear hb5)
                go_roundw
                case rel => exact ⟨j + 1, t ++ ([58] ++ hex8 x), by omega, by omega, by rw [btx_app8, btx_app8, HSv.out, HTh.out, ← ByteArray.append_assoc]; rfl, by go_num, HB5.out, by rw [HSt0.out]; simp⟩
                case measure => simp [intOf]; omega
              · rw [if_neg hj0] at HSt0
                go_wp2_with (go_at_call 40; refine (hex_is HTh.out hx6 _).mono ?_; rintro e w5 ⟨rfl, hb5⟩; have HB5 := Lib.hid (bnx8 HBd.out hb5); clear hb5)
                go_roundw
                case rel => exact ⟨j + 1, t ++ hex8 x, by omega, by omega, by rw [btx_app8, HSv.out, HTh.out], by go_num, HB5.out, by rw [HSt0.out]; simp⟩
                case measure => simp [intOf]; omega
            · by_cases hje0 : j = b
              · subst hje0
                rw [restB_here HBl.out (by omega)] at hst
                have HSt0 := Lib.hid hst
                have HBd := Lib.hid hb
                obtain ⟨sv, hsv⟩ : ∃ sv, btx t = sv := ⟨_, rfl⟩
                have hsvs : sv.size ≤ 39 := by rw [← hsv, btx_size]; exact htl
                have HSv := Lib.hid hsv
                rw [hsv]
                clear hsv hst hb htl hjl
                go_wp2
                go_roundw
                case rel => exact ⟨j + n, t ++ [58, 58], by omega, by omega, by rw [btx_app8, HSv.out]; rfl, by go_num, HBd.out, by rw [HSt0.out]; simp⟩
                case measure => simp [intOf]; omega
              · have hjb2 : b + n ≤ j := by omega
                rw [restB_behind (by omega) hjb2 (by rw [HLen.out]; exact hj8)] at hst
                have hck := HCk.out _ j hb hj8
                have HBd := Lib.hid hb
                have hx6 := H6.out (l.getD j 0) (by rw [List.getD_eq_getElem?_getD, List.getElem?_eq_getElem (by rw [HLen.out]; exact hj8)]; exact List.getElem_mem _)
                have HSt0 := Lib.hid hst
                obtain ⟨x, hx⟩ : ∃ x, l.getD j 0 = x := ⟨_, rfl⟩
                rw [hx] at hck hx6 HSt0
                obtain ⟨th, hth⟩ : ∃ th, btx (hex8 x) = th := ⟨_, rfl⟩
                have hths : th.size ≤ 4 := by rw [← hth, btx_size]; exact (hex8_four hx6).2
                have HTh := Lib.hid hth
                obtain ⟨sv, hsv⟩ : ∃ sv, btx t = sv := ⟨_, rfl⟩
                have hsvs : sv.size ≤ 39 := by rw [← hsv, btx_size]; exact htl
                have HSv := Lib.hid hsv
                rw [hsv]
                clear hx hth hsv hst hb htl
                have hje : ((j : Int) == (b : Int)) = false := beq_eq_false_iff_ne.2 (by omega)
                by_cases hj0 : b + n < j
                · have hjn : ((j : Int) != (b : Int) + (n : Int)) = true := bne_iff_ne.2 (by omega)
                  rw [if_pos hj0] at HSt0
                  go_wp2_with (go_at_call 40; refine (hex_is HTh.out hx6 _).mono ?_; rintro e w5 ⟨rfl, hb5⟩; have HB5 := Lib.hid (bnx8 HBd.out hb5); clear hb5)
                  go_roundw
                  case rel => exact ⟨j + 1, t ++ ([58] ++ hex8 x), by omega, by omega, by rw [btx_app8, btx_app8, HSv.out, HTh.out, ← ByteArray.append_assoc]; rfl, by go_num, HB5.out, by rw [HSt0.out]; simp⟩
                  case measure => simp [intOf]; omega
                · have hjn : ((j : Int) != (b : Int) + (n : Int)) = false := by rw [bne_eq_false_iff_eq]; omega
                  rw [if_neg hj0] at HSt0
                  go_wp2_with (go_at_call 40; refine (hex_is HTh.out hx6 _).mono ?_; rintro e w5 ⟨rfl, hb5⟩; have HB5 := Lib.hid (bnx8 HBd.out hb5); clear hb5)
                  go_roundw
                  case rel => exact ⟨j + 1, t ++ hex8 x, by omega, by omega, by rw [btx_app8, HSv.out, HTh.out], by go_num, HB5.out, by rw [HSt0.out]; simp⟩
                  case measure => simp [intOf]; omega
          · have HE : Hid (T = t) := by show T = t; rw [hst, restB_end (by rw [HLen.out]; omega) (by omega), List.append_nil]
            have HBd := Lib.hid hb
            clear hst hb
            go_wp2
            go_ret
            exact ⟨by rw [HT.out, HE.out]; rfl, HB0.out.trans (HBd.out.mono HB0.out.size)⟩
end Go.Proofs.YtliklhldlofnjaaDoor

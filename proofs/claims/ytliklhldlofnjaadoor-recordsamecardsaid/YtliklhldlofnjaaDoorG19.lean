/-
  In this text, one behind the other: RecGJoin.
-/
import Derived.BigQuiet
import Derived.Deep.AppendLies
import Derived.Deep.Light
import Derived.Deep.LoopGhost
import Derived.Deep.QuietTactic
import Derived.Deep.RegionHeld3
import Derived.Deep.RegionWith
import Derived.Deep.WholeRow
import Derived.IntWalk
import Derived.LaidEql
import Derived.Laws.AppendOwnNone
import Derived.Laws.Bits64b
import Derived.Laws.BitsAllLaws
import Derived.Laws.BitsLemmas
import Derived.Laws.Cover4
import Derived.Laws.IdiomStrings
import Derived.Laws.Rows
import Derived.Laws.Tables
import Derived.Lib.Hide
import Derived.Lib.IndexBytes
import Derived.Lib.IndexMore
import Derived.Lib.Join
import Derived.Lib.ParseIntB
import Derived.Maps.AppendAt
import Derived.RowKitTokens
import Derived.Shelf.Spec.TrailingZeros
import Derived.Shelf.Strconv.Itoa3
import Derived.Shelf.Strings.OnBuilder
import Derived.Stop.Asserts
import Derived.WalkKit
import Derived.WalkLawsBesides
import Derived.WalkSpells
import Derived.Test.YtliklhldlofnjaaDoorRows
import Derived.Test.YtliklhldlofnjaaDoorG10
import Derived.Test.YtliklhldlofnjaaDoorG11
import Derived.Test.YtliklhldlofnjaaDoorG16
import Derived.Test.YtliklhldlofnjaaDoorG18
/-
  The program's join and given of layer 12, by their contracts; strconv.Itoa at any number (written by mkrecg.py).
-/
namespace Go.Proofs.YtliklhldlofnjaaDoor
open Go.RowKit

/-- Texts that lie side by side in a block. -/
structure Parts (w : World) (p : Nat) (ss : List ByteArray) : Prop where
  lt : p < w.heap.size
  cell : ∀ j s, ss[j]? = some s → w.cell? ⟨p, j, none⟩ = some (.string s)
theorem Parts.new {w : World} {p : Nat} (T : TypeId) (ss : List ByteArray) (hp : p = w.heap.size) : Parts (w.alloc (.cells (ss.map Value.string).toArray T)) p ss := by
  subst hp
  refine ⟨by simp, fun j s h => ?_⟩
  have e : (w.alloc (.cells (ss.map Value.string).toArray T)).heap[w.heap.size]? = some (.cells (ss.map Value.string).toArray T (0, 0)) := heap_alloc_new w _
  unfold World.cell?
  rw [e]
  simp [h]
def cat12 (ss : List ByteArray) : List UInt8 := (ss.map (·.data.toList)).flatten
theorem joinTail_nil12 (r : List (List UInt8)) : Lib.joinTail [] r = r.flatten := by
  unfold Lib.joinTail
  congr 1
  induction r with
  | nil => rfl
  | cons x l ih => rw [List.map_cons, ih]; rfl
theorem join_cat12 (ss : List ByteArray) : Lib.join (ss.map (·.data.toList)) [] = cat12 ss := by
  unfold cat12
  cases ss with
  | nil => rfl
  | cons x r => rw [List.map_cons, Lib.join_cons, joinTail_nil12]; rfl
theorem sjoin12_any {w : World} {p n : Nat} {ss : List ByteArray} (h : Parts w p ss) (hn : ss.length = n) (h1 : n ≤ 10) (hl : (cat12 ss).length ≤ 1000000) :
    Calls Tryd.prog 26 #[.slice (some ⟨p, 0, none⟩) n n, .string ⟨#[]⟩] w fun e w' => e = .returned (.string (txt10 (cat12 ss))) ∧ Below w.heap.size w w' := by
  subst hn
  have hs := Any.strings_Join lays156 joinExtra p 0 ss.length ss ⟨#[]⟩ w (fun j x hx => by rw [Nat.zero_add]; exact h.cell j x hx) h.lt (by omega) (Nat.le_refl _) (by
    show (Lib.join (ss.map (·.data.toList)) []).length ≤ _
    rw [join_cat12]
    omega)
  refine hs.mono ?_
  rintro e w' ⟨rfl, hb⟩
  refine ⟨?_, hb⟩
  show Ending.returned (.string ⟨(Lib.join (ss.map (·.data.toList)) []).toArray⟩) = _
  rw [join_cat12]
  rfl
set_option maxHeartbeats 1000000 in
theorem join12_any {w : World} {p n : Nat} {ss : List ByteArray} {t : ByteArray} (ht : txt10 (cat12 ss) = t) (h : Parts w p ss) (hn : ss.length = n) (h1 : n ≤ 10) (hl : (cat12 ss).length ≤ 1000000) :
    Calls Tryd.prog 18 #[.slice (some ⟨p, 0, none⟩) n n] w fun e w' => e = .returned (.string t) ∧ Below w.heap.size w w' := by
  have HC := Lib.hid (sjoin12_any h hn h1 hl)
  rw [ht] at HC
  clear h hn hl ht
  go_enter Tryd.func18, Tryd.ntmps18
  go_wp2_with (go_at_call 26; (with_reducible refine (HC.out).mono ?_); rintro e w1 ⟨rfl, hb⟩; have HB := Lib.hid hb; clear hb)
  go_ret
  exact ⟨rfl, HB.out⟩
set_option maxHeartbeats 1000000 in
theorem given12_no {w : World} {p n : Nat} : Calls Tryd.prog 17 #[.bool false, .slice (some ⟨p, 0, none⟩) n n] w fun e w' => e = .returned (.string ⟨#[]⟩) ∧ Below w.heap.size w w' := by
  go_enter Tryd.func17, Tryd.ntmps17
  go_wp2
  go_ret
  exact ⟨rfl, Below.refl _ _⟩
set_option maxHeartbeats 1000000 in
theorem given12_yes {w : World} {p n : Nat} {ss : List ByteArray} {t : ByteArray} (ht : txt10 (cat12 ss) = t) (h : Parts w p ss) (hn : ss.length = n) (h1 : n ≤ 10) (hl : (cat12 ss).length ≤ 1000000) :
    Calls Tryd.prog 17 #[.bool true, .slice (some ⟨p, 0, none⟩) n n] w fun e w' => e = .returned (.string t) ∧ Below w.heap.size w w' := by
  have HC := Lib.hid (join12_any ht h hn h1 hl)
  clear h hn hl ht
  go_enter Tryd.func17, Tryd.ntmps17
  go_wp2_with (go_at_call 18; (with_reducible refine (HC.out).mono ?_); rintro e w1 ⟨rfl, hb⟩; have HB := Lib.hid hb; clear hb)
  go_ret
  exact ⟨rfl, HB.out⟩
/-- given, whatever it is asked. -/
theorem given12_any (b : Bool) {w : World} {p n : Nat} {ss : List ByteArray} {t : ByteArray} (ht : txt10 (if b then cat12 ss else []) = t) (h : Parts w p ss) (hn : ss.length = n) (h1 : n ≤ 10) (hl : (cat12 ss).length ≤ 1000000) :
    Calls Tryd.prog 17 #[.bool b, .slice (some ⟨p, 0, none⟩) n n] w fun e w' => e = .returned (.string t) ∧ Below w.heap.size w w' := by
  cases b with
  | true => exact given12_yes ht h hn h1 hl
  | false => subst ht; exact given12_no
/-- strconv.Itoa: some text, and a number's figures where it is no less than nought. -/
theorem dig_dcm12 (n : Nat) : Lib.decDigits n = dcm10 n := by
  induction n using Nat.strongRecOn with
  | ind n ih =>
    unfold dcm10
    split
    · rename_i h
      rw [Lib.decDigits, dif_pos h]
    · rename_i h
      rw [Lib.decDigits, dif_neg h, ih (n / 10) (by omega)]
theorem itoa12_len {n : Int} (h0 : -9223372036854775808 ≤ n) (h1 : n ≤ 9223372036854775807) : (Lib.itoa n).length ≤ 20 := by
  unfold Lib.itoa
  split
  · rw [dig_dcm12]
    have := dcm10_len 18 n.natAbs (by omega)
    simp
    omega
  · rw [dig_dcm12]
    have := dcm10_len 18 n.toNat (by omega)
    omega
theorem itoa12_is {n : Int} (h : 0 ≤ n) : Lib.itoa n = dcm10 n.toNat := by
  unfold Lib.itoa
  rw [if_neg (by omega), dig_dcm12]
theorem itoa12_any {n : Int} {t : ByteArray} (ht : txt10 (Lib.itoa n) = t) (h0 : -9223372036854775808 ≤ n) (h1 : n ≤ 9223372036854775807) (w : World) (hp : Pow w) : Calls Tryd.prog 27 #[.int .i64 n] w fun e w' => e = .returned (.string t) ∧ Below w.heap.size w w' := by
  refine (Any.strconv_Itoa lays171 n h0 h1 w hp).mono ?_
  rintro e w' ⟨rfl, k, os, rfl⟩
  exact ⟨by rw [← ht]; rfl, below_grow7 w k os⟩

/-! Texts that are put side by side, and at once joined. -/
theorem given_one (b : Bool) {x t : ByteArray} (ht : txt10 (if b then x.data.toList else []) = t) (hl : x.size ≤ 1000000) (T : TypeId) {W : World} {p : Nat} (hp : p = W.heap.size) :
    Calls Tryd.prog 17 #[.bool b, .slice (some ⟨p, 0, none⟩) 1 1] (W.alloc (.cells #[.string x] T)) fun e w' => e = .returned (.string t) ∧ Below W.heap.size W w' := by
  have hs : Parts (W.alloc (.cells #[.string x] T)) p [x] := Parts.new T [x] hp
  have e : cat12 [x] = x.data.toList := by simp [cat12]
  have ht' := ht
  rw [← e] at ht'
  refine (given12_any b ht' hs rfl (Nat.le_of_ble_eq_true rfl) (by rw [e]; simpa using hl)).mono ?_
  rintro e w' ⟨rfl, hb⟩
  exact ⟨rfl, bn12 (bel12 _ _) hb⟩
theorem given_two (b : Bool) {x y t : ByteArray} (ht : txt10 (if b then x.data.toList ++ y.data.toList else []) = t) (hl : x.size + y.size ≤ 1000000) (T : TypeId) {W : World} {p : Nat} (hp : p = W.heap.size) :
    Calls Tryd.prog 17 #[.bool b, .slice (some ⟨p, 0, none⟩) 2 2] (W.alloc (.cells #[.string x, .string y] T)) fun e w' => e = .returned (.string t) ∧ Below W.heap.size W w' := by
  have hs : Parts (W.alloc (.cells #[.string x, .string y] T)) p [x, y] := Parts.new T [x, y] hp
  have e : cat12 [x, y] = x.data.toList ++ y.data.toList := by simp [cat12]
  have ht' := ht
  rw [← e] at ht'
  refine (given12_any b ht' hs rfl (Nat.le_of_ble_eq_true rfl) (by rw [e]; simpa using hl)).mono ?_
  rintro e w' ⟨rfl, hb⟩
  exact ⟨rfl, bn12 (bel12 _ _) hb⟩
theorem given_three (b : Bool) {x y z t : ByteArray} (ht : txt10 (if b then x.data.toList ++ (y.data.toList ++ z.data.toList) else []) = t) (hl : x.size + (y.size + z.size) ≤ 1000000) (T : TypeId) {W : World} {p : Nat} (hp : p = W.heap.size) :
    Calls Tryd.prog 17 #[.bool b, .slice (some ⟨p, 0, none⟩) 3 3] (W.alloc (.cells #[.string x, .string y, .string z] T)) fun e w' => e = .returned (.string t) ∧ Below W.heap.size W w' := by
  have hs : Parts (W.alloc (.cells #[.string x, .string y, .string z] T)) p [x, y, z] := Parts.new T [x, y, z] hp
  have e : cat12 [x, y, z] = x.data.toList ++ (y.data.toList ++ z.data.toList) := by simp [cat12]
  have ht' := ht
  rw [← e] at ht'
  refine (given12_any b ht' hs rfl (Nat.le_of_ble_eq_true rfl) (by rw [e]; simpa using hl)).mono ?_
  rintro e w' ⟨rfl, hb⟩
  exact ⟨rfl, bn12 (bel12 _ _) hb⟩
theorem join_four {x y z v t : ByteArray} (ht : txt10 (x.data.toList ++ (y.data.toList ++ (z.data.toList ++ v.data.toList))) = t) (hl : x.size + (y.size + (z.size + v.size)) ≤ 1000000) (T : TypeId) {W : World} {p : Nat} (hp : p = W.heap.size) :
    Calls Tryd.prog 18 #[.slice (some ⟨p, 0, none⟩) 4 4] (W.alloc (.cells #[.string x, .string y, .string z, .string v] T)) fun e w' => e = .returned (.string t) ∧ Below W.heap.size W w' := by
  have hs : Parts (W.alloc (.cells #[.string x, .string y, .string z, .string v] T)) p [x, y, z, v] := Parts.new T [x, y, z, v] hp
  have e : cat12 [x, y, z, v] = x.data.toList ++ (y.data.toList ++ (z.data.toList ++ v.data.toList)) := by simp [cat12]
  have ht' := ht
  rw [← e] at ht'
  refine (join12_any ht' hs rfl (Nat.le_of_ble_eq_true rfl) (by rw [e]; simpa using hl)).mono ?_
  rintro e w' ⟨rfl, hb⟩
  exact ⟨rfl, bn12 (bel12 _ _) hb⟩
theorem join_six {x y z v s r t : ByteArray} (ht : txt10 (x.data.toList ++ (y.data.toList ++ (z.data.toList ++ (v.data.toList ++ (s.data.toList ++ r.data.toList))))) = t) (hl : x.size + (y.size + (z.size + (v.size + (s.size + r.size)))) ≤ 1000000) (T : TypeId) {W : World} {p : Nat} (hp : p = W.heap.size) :
    Calls Tryd.prog 18 #[.slice (some ⟨p, 0, none⟩) 6 6] (W.alloc (.cells #[.string x, .string y, .string z, .string v, .string s, .string r] T)) fun e w' => e = .returned (.string t) ∧ Below W.heap.size W w' := by
  have hs : Parts (W.alloc (.cells #[.string x, .string y, .string z, .string v, .string s, .string r] T)) p [x, y, z, v, s, r] := Parts.new T [x, y, z, v, s, r] hp
  have e : cat12 [x, y, z, v, s, r] = x.data.toList ++ (y.data.toList ++ (z.data.toList ++ (v.data.toList ++ (s.data.toList ++ r.data.toList)))) := by simp [cat12]
  have ht' := ht
  rw [← e] at ht'
  refine (join12_any ht' hs rfl (Nat.le_of_ble_eq_true rfl) (by rw [e]; simpa using hl)).mono ?_
  rintro e w' ⟨rfl, hb⟩
  exact ⟨rfl, bn12 (bel12 _ _) hb⟩
end Go.Proofs.YtliklhldlofnjaaDoor

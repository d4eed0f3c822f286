/-
  In this text, one behind the other: SixFmt.
-/
import Derived.BigQuiet
import Derived.Deep.AppendLies
import Derived.Deep.Light
import Derived.Deep.QuietTactic
import Derived.Deep.RegionHeld3
import Derived.Deep.RegionWith
import Derived.IntWalk
import Derived.LaidEql
import Derived.Laws.Bits64b
import Derived.Laws.BitsLemmas
import Derived.Laws.Cover4
import Derived.Laws.IdiomStrings
import Derived.Lib.Hide
import Derived.Lib.IndexBytes
import Derived.Lib.IndexMore
import Derived.Lib.ParseIntB
import Derived.Maps.AppendAt
import Derived.RowKitTokens
import Derived.Shelf.Spec.TrailingZeros
import Derived.Shelf.Strings.OnBuilder
import Derived.Stop.Asserts
import Derived.WalkKit
import Derived.WalkLawsBesides
import Derived.WalkSpells
import Derived.Test.YtliklhldlofnjaaDoorRows
import Derived.Test.YtliklhldlofnjaaDoorG8
import Derived.Test.YtliklhldlofnjaaDoorG14
/-
  The library's FormatUint at base 16, for numbers of 16 bits, by its contract.
-/
namespace Go.Proofs.YtliklhldlofnjaaDoor
open Go.RowKit

theorem ispow16 (w : World) : Calls Tryd.prog 57 #[.int .i64 16] w fun e w' => e = .returned (.bool true) ∧ w = w' := by
  have h : bits .and .i64 16 15 = 0 := by decide
  go_enter Tryd.func57, Tryd.ntmps57
  go_wp2
  go_ret
  exact ⟨rfl, rfl⟩
theorem tz16 (w : World) (hv : V8 w) : Calls Tryd.prog 58 #[.int .u64 16] w fun e w' => e = .returned (.int .i64 4) ∧ w = w' := by
  refine (Any7.bits_TrailingZeros lays27 16 (by decide) w (fun _ => hv.tz)).mono ?_
  rintro e w' ⟨rfl, rfl⟩
  refine ⟨?_, rfl⟩
  have : Lib.ctz 64 16 = 4 := by decide
  rw [this]
  rfl
theorem and15 (n : Nat) (h : n < 65536) : bits .and .u64 (n : Int) 15 = ((n % 16 : Nat) : Int) := by
  have e := bits_and_u64_nat n 15 (by omega) (by omega)
  have e2 : ((15 : Nat) : Int) = 15 := rfl
  rw [e2] at e
  rw [e, Nat.and_two_pow_sub_one_eq_mod n 4]

/-- A block of 65 bytes that ends with some. -/
def RowB (w : World) (g : Nat) (bs : List UInt8) : Prop := w.heap[g]? = some (.cells (List.replicate (65 - bs.length) (Value.int .u8 0) ++ bs.map fun b => Value.int .u8 (b.toNat : Int)).toArray 81 (0, 0))
theorem RowB.lt {w : World} {g : Nat} {bs : List UInt8} (h : RowB w g bs) : g < w.heap.size := (Array.getElem?_eq_some_iff.1 h).1
theorem RowB.free {w : World} {g : Nat} {bs : List UInt8} (h : RowB w g bs) {j : Nat} (hj : j + bs.length < 65) : w.cell? ⟨g, j, none⟩ = some (.int .u8 0) ∧ w.frozen? ⟨g, j, none⟩ = false := by
  unfold RowB at h
  constructor
  · simp only [World.cell?, h]
    rw [List.getElem?_toArray, List.getElem?_append_left (by simp; omega), List.getElem?_eq_getElem (by simp; omega), List.getElem_replicate]
    rfl
  · simp [World.frozen?, h]
theorem RowB.put {w : World} {g : Nat} {bs : List UInt8} (h : RowB w g bs) {j : Nat} (hj : j + bs.length + 1 = 65) (b : UInt8) : RowB (w.setCell ⟨g, j, none⟩ (.int .u8 (b.toNat : Int))) g (b :: bs) := by
  unfold RowB
  rw [heap_setCell_same w g j _ _ _ h]
  congr 2
  apply Array.toList_inj.1
  simp only [Array.toList_setIfInBounds]
  rw [List.set_append_left _ _ (by simp; omega)]
  have e1 : 65 - bs.length = j + 1 := by omega
  have e2 : 65 - (b :: bs).length = j := by simp; omega
  rw [e1, e2, List.map_cons]
  have : (List.replicate (j + 1) (Value.int .u8 0)).set j (.int .u8 (b.toNat : Int)) = List.replicate j (Value.int .u8 0) ++ [.int .u8 (b.toNat : Int)] := by
    rw [List.replicate_succ', List.set_append_right _ _ (by simp)]
    simp
  rw [this, List.append_assoc]
  rfl
theorem RowB.bytes {w : World} {g : Nat} {bs : List UInt8} (h : RowB w g bs) {m : Nat} (hm : m + bs.length = 65) : ∀ j (hj : j < bs.length), w.cell? ((⟨g, m, none⟩ : Addr).add j) = some (.int .u8 ((bs[j]'hj).toNat : Int)) := by
  intro j hj
  have e : w.cell? ((⟨g, m, none⟩ : Addr).add j) = w.cell? ⟨g, m + j, none⟩ := by
    simp only [Addr.add]
    split
    · rename_i h0; rw [h0]; rfl
    · rfl
  rw [e]
  unfold RowB at h
  simp only [World.cell?, h]
  rw [List.getElem?_toArray, List.getElem?_append_right (by simp; omega)]
  simp only [List.length_replicate]
  rw [show m + j - (65 - bs.length) = j by omega, List.getElem?_map, List.getElem?_eq_getElem hj]
  rfl
theorem hex8_big {n : Nat} (h : 16 ≤ n) : hex8 n = hex8 (n / 16) ++ [hexd (n % 16)] := by
  rw [hex8, if_neg (by omega)]
theorem hex8_low {n : Nat} (h : n < 16) : hex8 n = [hexd n] := by
  rw [hex8, if_pos h]
/-- The figures that the library has. -/
def digs36 : ByteArray := ⟨#[48, 49, 50, 51, 52, 53, 54, 55, 56, 57, 97, 98, 99, 100, 101, 102, 103, 104, 105, 106, 107, 108, 109, 110, 111, 112, 113, 114, 115, 116, 117, 118, 119, 120, 121, 122]⟩
theorem digs36_size : digs36.size = 36 := by decide +kernel
theorem digs36_at : ∀ k : Fin 16, digs36.data.toList[k.val]? = some (hexd k.val) := by decide +kernel
theorem digs36_get (k : Nat) (h : k < digs36.size) (hk : k < 16) : digs36[k]'h = hexd k := by
  have e := digs36_at ⟨k, hk⟩
  rw [List.getElem?_eq_getElem (by simpa using h)] at e
  exact Option.some.inj e
set_option maxHeartbeats 4000000 in
set_option maxRecDepth 100000 in
theorem fmt_any (n : Nat) (hn : n < 65536) (w : World) (hv : V8 w) :
    Calls Tryd.prog 52 #[.slice none 0 0, .int .u64 (n : Int), .int .i64 16, .bool false, .bool false] w fun e w' => e = .returned (.tuple #[.slice none 0 0, .string (btx (hex8 n))]) ∧ Below w.heap.size w w' := by
  have HV := Lib.hid hv
  clear hv
  go_enter Tryd.func52, Tryd.ntmps52
  go_wp2_with (first
    | (go_at_call 57; refine (ispow16 _).mono ?_; rintro e w1 ⟨rfl, rfl⟩)
    | (go_at_call 58; refine (tz16 _ (HV.out.below ((Below.refl _ _).alloc (Nat.le_refl _) _))).mono ?_; rintro e w1 ⟨rfl, rfl⟩))
  have HR0 : Hid (RowB (w.alloc (.cells Tryd.zeroCells81 81)) w.heap.size []) := by
    show RowB _ _ _
    exact heap_alloc_new w _
  have HB0 : Hid (Below w.heap.size w (w.alloc (.cells Tryd.zeroCells81 81))) := by
    show Below _ _ _
    exact (Below.refl _ _).alloc (Nat.le_refl _) _
  generalize (w.alloc (.cells Tryd.zeroCells81 81)) = W at HR0 HB0 ⊢
  obtain ⟨g, hg⟩ : ∃ g, w.heap.size = g := ⟨_, rfl⟩
  rw [hg] at HR0 ⊢
  have HG := Lib.hid hg
  have HL := Lib.hid (hex8_four hn)
  clear hg
  go_loopw [1, 13] (fun u i wr => ∃ (v : Nat) (bs : List UInt8) (m : Nat), u = .int .u64 (v : Int) ∧ i = .int .i64 (m : Int) ∧ m + bs.length = 65 ∧ v < 65536 ∧ Hid (hex8 n = hex8 v ++ bs) ∧ RowB wr g bs ∧ Below w.heap.size w wr) (fun u _ _ => (intOf u).toNat)
  case atStart => exact ⟨n, [], 65, rfl, rfl, rfl, hn, Lib.hid (by rw [List.append_nil]), HR0.out, HB0.out⟩
  case round =>
    obtain ⟨v, bs, m, rfl, rfl, hm, hv, HX, hrow, hbw⟩ := hrel
    have hgl := hrow.lt
    have HRw := Lib.hid hrow
    have HBw := Lib.hid hbw
    clear hrow hbw
    have hlen : (hex8 v).length + bs.length ≤ 4 := by
      have h := HL.out.2
      rw [HX.out, List.length_append] at h
      exact h
    have hlv := (hex8_four hv).1
    by_cases h16 : 16 ≤ v
    · have hm62 : 62 ≤ m := by
        have := (hex8_four (show v / 16 < 65536 by omega)).1
        rw [hex8_big h16, List.length_append, List.length_singleton] at hlen
        omega
      have hand := and15 v hv
      have HDg := Lib.hid (digs36_at ⟨v % 16, by omega⟩)
      obtain ⟨hcell, hfz⟩ := HRw.out.free (j := m - 1) (by omega)
      have hd16 : v % 16 < 16 := by omega
      have hm1 : ((m : Int) - 1).toNat = m - 1 := by omega
      clear hlen hlv
      have HDd : Hid (digs36[v % 16]'(by rw [digs36_size]; omega) = hexd (v % 16)) := Lib.hid (digs36_get _ _ hd16)
      go_wp2
      go_roundw
      case rel => exact ⟨v / 16, (digs36[v % 16]'(by rw [digs36_size]; omega)) :: bs, m - 1, congrArg (Value.int .u64) (by omega), congrArg (Value.int .i64) (by omega), by rw [List.length_cons]; omega, by omega, Lib.hid (by rw [HX.out, hex8_big h16, HDd.out, List.append_assoc]; rfl), HRw.out.put (by omega) _, HBw.out.setCell (Nat.le_of_eq HG.out) _⟩
      case measure => simp [intOf]; omega
    · have hv16 : v < 16 := by omega
      have HDd : Hid (digs36[v]'(by rw [digs36_size]; omega) = hexd v) := Lib.hid (digs36_get _ _ hv16)
      have hlow := hex8_low hv16
      have HX2 : Hid (hex8 n = (digs36[v]'(by rw [digs36_size]; omega)) :: bs) := by
        show hex8 n = _
        rw [HX.out, hlow, HDd.out]
        rfl
      have hbl : bs.length ≤ 3 := by
        rw [hlow, List.length_singleton] at hlen
        omega
      clear hlen hlv hlow HDd
      have hsh : (bs = [] ∧ m = 65) ∨ (∃ b1, bs = [b1] ∧ m = 64) ∨ (∃ b1 b2, bs = [b1, b2] ∧ m = 63) ∨ (∃ b1 b2 b3, bs = [b1, b2, b3] ∧ m = 62) := by
        match bs, hbl, hm with
        | [], _, hm => exact .inl ⟨rfl, by simpa using hm⟩
        | [b1], _, hm => exact .inr (.inl ⟨b1, rfl, by simp at hm; omega⟩)
        | [b1, b2], _, hm => exact .inr (.inr (.inl ⟨b1, b2, rfl, by simp at hm; omega⟩))
        | [b1, b2, b3], _, hm => exact .inr (.inr (.inr ⟨b1, b2, b3, rfl, by simp at hm; omega⟩))
      rcases hsh with ⟨rfl, rfl⟩ | ⟨b1, rfl, rfl⟩ | ⟨b1, b2, rfl, rfl⟩ | ⟨b1, b2, b3, rfl, rfl⟩
      · obtain ⟨hcell, hfz⟩ := HRw.out.free (j := 64) (by simp)
        have HR2 := Lib.hid (HRw.out.put (j := 64) rfl ((⟨#[48, 49, 50, 51, 52, 53, 54, 55, 56, 57, 97, 98, 99, 100, 101, 102, 103, 104, 105, 106, 107, 108, 109, 110, 111, 112, 113, 114, 115, 116, 117, 118, 119, 120, 121, 122]⟩ : ByteArray)[v]'(by rw [show (⟨#[48, 49, 50, 51, 52, 53, 54, 55, 56, 57, 97, 98, 99, 100, 101, 102, 103, 104, 105, 106, 107, 108, 109, 110, 111, 112, 113, 114, 115, 116, 117, 118, 119, 120, 121, 122]⟩ : ByteArray) = digs36 from rfl, digs36_size]; omega)))
        have hcv : (convert 49 9 (.slice (some ⟨g, 64, none⟩) 1 1)).run Tryd.prog (wr.setCell ⟨g, 64, none⟩ (.int .u8 (((⟨#[48, 49, 50, 51, 52, 53, 54, 55, 56, 57, 97, 98, 99, 100, 101, 102, 103, 104, 105, 106, 107, 108, 109, 110, 111, 112, 113, 114, 115, 116, 117, 118, 119, 120, 121, 122]⟩ : ByteArray)[v]'(by rw [show (⟨#[48, 49, 50, 51, 52, 53, 54, 55, 56, 57, 97, 98, 99, 100, 101, 102, 103, 104, 105, 106, 107, 108, 109, 110, 111, 112, 113, 114, 115, 116, 117, 118, 119, 120, 121, 122]⟩ : ByteArray) = digs36 from rfl, digs36_size]; omega)).toNat : Int))) = .ok (.string (btx (((⟨#[48, 49, 50, 51, 52, 53, 54, 55, 56, 57, 97, 98, 99, 100, 101, 102, 103, 104, 105, 106, 107, 108, 109, 110, 111, 112, 113, 114, 115, 116, 117, 118, 119, 120, 121, 122]⟩ : ByteArray)[v]'(by rw [show (⟨#[48, 49, 50, 51, 52, 53, 54, 55, 56, 57, 97, 98, 99, 100, 101, 102, 103, 104, 105, 106, 107, 108, 109, 110, 111, 112, 113, 114, 115, 116, 117, 118, 119, 120, 121, 122]⟩ : ByteArray) = digs36 from rfl, digs36_size]; omega)) :: []))) (wr.setCell ⟨g, 64, none⟩ (.int .u8 (((⟨#[48, 49, 50, 51, 52, 53, 54, 55, 56, 57, 97, 98, 99, 100, 101, 102, 103, 104, 105, 106, 107, 108, 109, 110, 111, 112, 113, 114, 115, 116, 117, 118, 119, 120, 121, 122]⟩ : ByteArray)[v]'(by rw [show (⟨#[48, 49, 50, 51, 52, 53, 54, 55, 56, 57, 97, 98, 99, 100, 101, 102, 103, 104, 105, 106, 107, 108, 109, 110, 111, 112, 113, 114, 115, 116, 117, 118, 119, 120, 121, 122]⟩ : ByteArray) = digs36 from rfl, digs36_size]; omega)).toNat : Int))) :=
          run_convert_bytes_back _ 49 9 5 ⟨g, 64, none⟩ 1 (_ :: []) Tryd.underlying49 Tryd.underlying5 Tryd.underlying9 (HR2.out.bytes rfl)
        clear HR2
        go_wp2
        go_ret2
        exact ⟨by rw [HX2.out]; rfl, HBw.out.setCell (Nat.le_of_eq HG.out) _⟩
      · obtain ⟨hcell, hfz⟩ := HRw.out.free (j := 63) (by simp)
        have HR2 := Lib.hid (HRw.out.put (j := 63) rfl ((⟨#[48, 49, 50, 51, 52, 53, 54, 55, 56, 57, 97, 98, 99, 100, 101, 102, 103, 104, 105, 106, 107, 108, 109, 110, 111, 112, 113, 114, 115, 116, 117, 118, 119, 120, 121, 122]⟩ : ByteArray)[v]'(by rw [show (⟨#[48, 49, 50, 51, 52, 53, 54, 55, 56, 57, 97, 98, 99, 100, 101, 102, 103, 104, 105, 106, 107, 108, 109, 110, 111, 112, 113, 114, 115, 116, 117, 118, 119, 120, 121, 122]⟩ : ByteArray) = digs36 from rfl, digs36_size]; omega)))
        have hcv : (convert 49 9 (.slice (some ⟨g, 63, none⟩) 2 2)).run Tryd.prog (wr.setCell ⟨g, 63, none⟩ (.int .u8 (((⟨#[48, 49, 50, 51, 52, 53, 54, 55, 56, 57, 97, 98, 99, 100, 101, 102, 103, 104, 105, 106, 107, 108, 109, 110, 111, 112, 113, 114, 115, 116, 117, 118, 119, 120, 121, 122]⟩ : ByteArray)[v]'(by rw [show (⟨#[48, 49, 50, 51, 52, 53, 54, 55, 56, 57, 97, 98, 99, 100, 101, 102, 103, 104, 105, 106, 107, 108, 109, 110, 111, 112, 113, 114, 115, 116, 117, 118, 119, 120, 121, 122]⟩ : ByteArray) = digs36 from rfl, digs36_size]; omega)).toNat : Int))) = .ok (.string (btx (((⟨#[48, 49, 50, 51, 52, 53, 54, 55, 56, 57, 97, 98, 99, 100, 101, 102, 103, 104, 105, 106, 107, 108, 109, 110, 111, 112, 113, 114, 115, 116, 117, 118, 119, 120, 121, 122]⟩ : ByteArray)[v]'(by rw [show (⟨#[48, 49, 50, 51, 52, 53, 54, 55, 56, 57, 97, 98, 99, 100, 101, 102, 103, 104, 105, 106, 107, 108, 109, 110, 111, 112, 113, 114, 115, 116, 117, 118, 119, 120, 121, 122]⟩ : ByteArray) = digs36 from rfl, digs36_size]; omega)) :: [b1]))) (wr.setCell ⟨g, 63, none⟩ (.int .u8 (((⟨#[48, 49, 50, 51, 52, 53, 54, 55, 56, 57, 97, 98, 99, 100, 101, 102, 103, 104, 105, 106, 107, 108, 109, 110, 111, 112, 113, 114, 115, 116, 117, 118, 119, 120, 121, 122]⟩ : ByteArray)[v]'(by rw [show (⟨#[48, 49, 50, 51, 52, 53, 54, 55, 56, 57, 97, 98, 99, 100, 101, 102, 103, 104, 105, 106, 107, 108, 109, 110, 111, 112, 113, 114, 115, 116, 117, 118, 119, 120, 121, 122]⟩ : ByteArray) = digs36 from rfl, digs36_size]; omega)).toNat : Int))) :=
          run_convert_bytes_back _ 49 9 5 ⟨g, 63, none⟩ 2 (_ :: [b1]) Tryd.underlying49 Tryd.underlying5 Tryd.underlying9 (HR2.out.bytes rfl)
        clear HR2
        go_wp2
        go_ret2
        exact ⟨by rw [HX2.out]; rfl, HBw.out.setCell (Nat.le_of_eq HG.out) _⟩
      · obtain ⟨hcell, hfz⟩ := HRw.out.free (j := 62) (by simp)
        have HR2 := Lib.hid (HRw.out.put (j := 62) rfl ((⟨#[48, 49, 50, 51, 52, 53, 54, 55, 56, 57, 97, 98, 99, 100, 101, 102, 103, 104, 105, 106, 107, 108, 109, 110, 111, 112, 113, 114, 115, 116, 117, 118, 119, 120, 121, 122]⟩ : ByteArray)[v]'(by rw [show (⟨#[48, 49, 50, 51, 52, 53, 54, 55, 56, 57, 97, 98, 99, 100, 101, 102, 103, 104, 105, 106, 107, 108, 109, 110, 111, 112, 113, 114, 115, 116, 117, 118, 119, 120, 121, 122]⟩ : ByteArray) = digs36 from rfl, digs36_size]; omega)))
        have hcv : (convert 49 9 (.slice (some ⟨g, 62, none⟩) 3 3)).run Tryd.prog (wr.setCell ⟨g, 62, none⟩ (.int .u8 (((⟨#[48, 49, 50, 51, 52, 53, 54, 55, 56, 57, 97, 98, 99, 100, 101, 102, 103, 104, 105, 106, 107, 108, 109, 110, 111, 112, 113, 114, 115, 116, 117, 118, 119, 120, 121, 122]⟩ : ByteArray)[v]'(by rw [show (⟨#[48, 49, 50, 51, 52, 53, 54, 55, 56, 57, 97, 98, 99, 100, 101, 102, 103, 104, 105, 106, 107, 108, 109, 110, 111, 112, 113, 114, 115, 116, 117, 118, 119, 120, 121, 122]⟩ : ByteArray) = digs36 from rfl, digs36_size]; omega)).toNat : Int))) = .ok (.string (btx (((⟨#[48, 49, 50, 51, 52, 53, 54, 55, 56, 57, 97, 98, 99, 100, 101, 102, 103, 104, 105, 106, 107, 108, 109, 110, 111, 112, 113, 114, 115, 116, 117, 118, 119, 120, 121, 122]⟩ : ByteArray)[v]'(by rw [show (⟨#[48, 49, 50, 51, 52, 53, 54, 55, 56, 57, 97, 98, 99, 100, 101, 102, 103, 104, 105, 106, 107, 108, 109, 110, 111, 112, 113, 114, 115, 116, 117, 118, 119, 120, 121, 122]⟩ : ByteArray) = digs36 from rfl, digs36_size]; omega)) :: [b1, b2]))) (wr.setCell ⟨g, 62, none⟩ (.int .u8 (((⟨#[48, 49, 50, 51, 52, 53, 54, 55, 56, 57, 97, 98, 99, 100, 101, 102, 103, 104, 105, 106, 107, 108, 109, 110, 111, 112, 113, 114, 115, 116, 117, 118, 119, 120, 121, 122]⟩ : ByteArray)[v]'(by rw [show (⟨#[48, 49, 50, 51, 52, 53, 54, 55, 56, 57, 97, 98, 99, 100, 101, 102, 103, 104, 105, 106, 107, 108, 109, 110, 111, 112, 113, 114, 115, 116, 117, 118, 119, 120, 121, 122]⟩ : ByteArray) = digs36 from rfl, digs36_size]; omega)).toNat : Int))) :=
          run_convert_bytes_back _ 49 9 5 ⟨g, 62, none⟩ 3 (_ :: [b1, b2]) Tryd.underlying49 Tryd.underlying5 Tryd.underlying9 (HR2.out.bytes rfl)
        clear HR2
        go_wp2
        go_ret2
        exact ⟨by rw [HX2.out]; rfl, HBw.out.setCell (Nat.le_of_eq HG.out) _⟩
      · obtain ⟨hcell, hfz⟩ := HRw.out.free (j := 61) (by simp)
        have HR2 := Lib.hid (HRw.out.put (j := 61) rfl ((⟨#[48, 49, 50, 51, 52, 53, 54, 55, 56, 57, 97, 98, 99, 100, 101, 102, 103, 104, 105, 106, 107, 108, 109, 110, 111, 112, 113, 114, 115, 116, 117, 118, 119, 120, 121, 122]⟩ : ByteArray)[v]'(by rw [show (⟨#[48, 49, 50, 51, 52, 53, 54, 55, 56, 57, 97, 98, 99, 100, 101, 102, 103, 104, 105, 106, 107, 108, 109, 110, 111, 112, 113, 114, 115, 116, 117, 118, 119, 120, 121, 122]⟩ : ByteArray) = digs36 from rfl, digs36_size]; omega)))
        have hcv : (convert 49 9 (.slice (some ⟨g, 61, none⟩) 4 4)).run Tryd.prog (wr.setCell ⟨g, 61, none⟩ (.int .u8 (((⟨#[48, 49, 50, 51, 52, 53, 54, 55, 56, 57, 97, 98, 99, 100, 101, 102, 103, 104, 105, 106, 107, 108, 109, 110, 111, 112, 113, 114, 115, 116, 117, 118, 119, 120, 121, 122]⟩ : ByteArray)[v]'(by rw [show (⟨#[48, 49, 50, 51, 52, 53, 54, 55, 56, 57, 97, 98, 99, 100, 101, 102, 103, 104, 105, 106, 107, 108, 109, 110, 111, 112, 113, 114, 115, 116, 117, 118, 119, 120, 121, 122]⟩ : ByteArray) = digs36 from rfl, digs36_size]; omega)).toNat : Int))) = .ok (.string (btx (((⟨#[48, 49, 50, 51, 52, 53, 54, 55, 56, 57, 97, 98, 99, 100, 101, 102, 103, 104, 105, 106, 107, 108, 109, 110, 111, 112, 113, 114, 115, 116, 117, 118, 119, 120, 121, 122]⟩ : ByteArray)[v]'(by rw [show (⟨#[48, 49, 50, 51, 52, 53, 54, 55, 56, 57, 97, 98, 99, 100, 101, 102, 103, 104, 105, 106, 107, 108, 109, 110, 111, 112, 113, 114, 115, 116, 117, 118, 119, 120, 121, 122]⟩ : ByteArray) = digs36 from rfl, digs36_size]; omega)) :: [b1, b2, b3]))) (wr.setCell ⟨g, 61, none⟩ (.int .u8 (((⟨#[48, 49, 50, 51, 52, 53, 54, 55, 56, 57, 97, 98, 99, 100, 101, 102, 103, 104, 105, 106, 107, 108, 109, 110, 111, 112, 113, 114, 115, 116, 117, 118, 119, 120, 121, 122]⟩ : ByteArray)[v]'(by rw [show (⟨#[48, 49, 50, 51, 52, 53, 54, 55, 56, 57, 97, 98, 99, 100, 101, 102, 103, 104, 105, 106, 107, 108, 109, 110, 111, 112, 113, 114, 115, 116, 117, 118, 119, 120, 121, 122]⟩ : ByteArray) = digs36 from rfl, digs36_size]; omega)).toNat : Int))) :=
          run_convert_bytes_back _ 49 9 5 ⟨g, 61, none⟩ 4 (_ :: [b1, b2, b3]) Tryd.underlying49 Tryd.underlying5 Tryd.underlying9 (HR2.out.bytes rfl)
        clear HR2
        go_wp2
        go_ret2
        exact ⟨by rw [HX2.out]; rfl, HBw.out.setCell (Nat.le_of_eq HG.out) _⟩
end Go.Proofs.YtliklhldlofnjaaDoor

/-
  In this text, one behind the other: ZText.
-/
import Derived.BigQuiet
import Derived.Deep.Light
import Derived.Deep.QuietTactic
import Derived.IntWalk
import Derived.LaidEql
import Derived.Laws.BitsAllLaws
import Derived.Laws.BitsLemmas
import Derived.Laws.Cover4
import Derived.Lib.Hide
import Derived.Maps.AppendAt
import Derived.RowKitTokens
import Derived.Shelf.Strconv.Itoa3
import Derived.Stop.Asserts
import Derived.WalkKit
import Derived.WalkLawsBesides
import Derived.WalkSpells
import Derived.Test.YtliklhldlofnjaaDoorRows
import Derived.Test.YtliklhldlofnjaaDoorG7
import Derived.Test.YtliklhldlofnjaaDoorG17
/-
  The program's Text of layer 7, by the shelf's strconv.Itoa; the table that it reads.
-/
namespace Go.Proofs.YtliklhldlofnjaaDoor
open Go.RowKit

/-- The table of the powers of ten. -/
def Pow (w : World) : Prop := Lib.TabIs Tryd.prog w "internal/strconv.uint64pow10" .u64 Lib.pow10Tab
theorem Tryd.n_pow : Tryd.prog.globalNamed "internal/strconv.uint64pow10" = some 1 := by kernel_rfl
theorem Pow.belowB {w w' : World} {B : Nat} (h : Pow w) (hB : 1 < B) (hb : Below B w w') : Pow w' := by
  have h1 : w.var? Tryd.prog "internal/strconv.uint64pow10" = _ := h
  show w'.var? Tryd.prog "internal/strconv.uint64pow10" = _
  rw [← h1]
  simp only [World.var?, Tryd.n_pow, Option.bind_some, hb.block _ hB]
theorem Pow.lt {w : World} (h : Pow w) : 1 < w.heap.size := by
  have h1 : w.var? Tryd.prog "internal/strconv.uint64pow10" = some (Lib.pow10Tab.map fun z => Value.int .u64 z).toArray := h
  simp only [World.var?, Tryd.n_pow, Option.bind_some] at h1
  cases hc : w.heap[1]? with
  | none => rw [hc] at h1; cases h1
  | some o => exact (Array.getElem?_eq_some_iff.1 hc).1
theorem Pow.below {w w' : World} (h : Pow w) (hb : Below w.heap.size w w') : Pow w' := h.belowB h.lt hb
theorem dec_same7 : ∀ n : Fin 256, Lib.itoa (n.val : Int) = dec8 n.val := by decide +kernel
theorem below_grow7 (w : World) (k : Nat) (os : Array Obj) : Below w.heap.size w (Go.Sort.grow (w.drewN k) os) :=
  ⟨rfl, rfl, rfl, by simp [Go.Sort.grow], fun j hj => by
    show (w.heap ++ os)[j]? = w.heap[j]?
    rw [Array.getElem?_append_left hj]⟩
theorem itoa7_any (n : Nat) (hn : n < 256) (w : World) (hp : Pow w) : Calls Tryd.prog 27 #[.int .i64 (n : Int)] w fun e w' => e = .returned (.string (btx (dec8 n))) ∧ Below w.heap.size w w' := by
  refine (Any.strconv_Itoa lays171 (n : Int) (by omega) (by omega) w hp).mono ?_
  rintro e w' ⟨rfl, k, os, rfl⟩
  exact ⟨by rw [dec_same7 ⟨n, hn⟩]; rfl, below_grow7 w k os⟩
theorem and255 (x : Nat) (hx : x < 4294967296) : bits .and .u32 (x : Int) 255 = ((x % 256 : Nat) : Int) := by
  have := u32_and_nat x 255 hx (by omega)
  have e : ((255 : Nat) : Int) = 255 := rfl
  rw [e] at this
  rw [this, Nat.and_two_pow_sub_one_eq_mod x 8]

set_option maxHeartbeats 1000000 in
theorem zpart_24 (a b n : Nat) (w : World) (ha : a < 4294967296) (hn : a / 16777216 % 256 = n) (hc : w.cell? ⟨b, 0, none⟩ = some (.int .u32 (a : Int))) (hp : Pow w) :
    Calls Tryd.prog 44 #[.int .i64 24, .pointer (some ⟨b, 0, none⟩)] w fun e w' => e = .returned (.string (btx (dec8 n))) ∧ Below w.heap.size w w' := by
  have hx : bits .and .u32 ((a : Int) / 16777216) 255 = (n : Int) := by
    have e : ((a : Int) / 16777216) = ((a / 16777216 : Nat) : Int) := by omega
    rw [e, and255 _ (by omega), hn]
  have hn2 : n < 256 := by omega
  have HP := Lib.hid hp
  clear hn hp
  go_enter Tryd.func44, Tryd.ntmps44
  go_wp2_with (go_at_call 27; refine (itoa7_any n hn2 _ HP.out).mono ?_; rintro e w1 ⟨rfl, hb⟩; have HB := Lib.hid hb; clear hb)
  go_ret
  exact ⟨rfl, HB.out⟩
set_option maxHeartbeats 1000000 in
theorem zpart_16 (a b n : Nat) (w : World) (ha : a < 4294967296) (hn : a / 65536 % 256 = n) (hc : w.cell? ⟨b, 0, none⟩ = some (.int .u32 (a : Int))) (hp : Pow w) :
    Calls Tryd.prog 44 #[.int .i64 16, .pointer (some ⟨b, 0, none⟩)] w fun e w' => e = .returned (.string (btx (dec8 n))) ∧ Below w.heap.size w w' := by
  have hx : bits .and .u32 ((a : Int) / 65536) 255 = (n : Int) := by
    have e : ((a : Int) / 65536) = ((a / 65536 : Nat) : Int) := by omega
    rw [e, and255 _ (by omega), hn]
  have hn2 : n < 256 := by omega
  have HP := Lib.hid hp
  clear hn hp
  go_enter Tryd.func44, Tryd.ntmps44
  go_wp2_with (go_at_call 27; refine (itoa7_any n hn2 _ HP.out).mono ?_; rintro e w1 ⟨rfl, hb⟩; have HB := Lib.hid hb; clear hb)
  go_ret
  exact ⟨rfl, HB.out⟩
set_option maxHeartbeats 1000000 in
theorem zpart_8 (a b n : Nat) (w : World) (ha : a < 4294967296) (hn : a / 256 % 256 = n) (hc : w.cell? ⟨b, 0, none⟩ = some (.int .u32 (a : Int))) (hp : Pow w) :
    Calls Tryd.prog 44 #[.int .i64 8, .pointer (some ⟨b, 0, none⟩)] w fun e w' => e = .returned (.string (btx (dec8 n))) ∧ Below w.heap.size w w' := by
  have hx : bits .and .u32 ((a : Int) / 256) 255 = (n : Int) := by
    have e : ((a : Int) / 256) = ((a / 256 : Nat) : Int) := by omega
    rw [e, and255 _ (by omega), hn]
  have hn2 : n < 256 := by omega
  have HP := Lib.hid hp
  clear hn hp
  go_enter Tryd.func44, Tryd.ntmps44
  go_wp2_with (go_at_call 27; refine (itoa7_any n hn2 _ HP.out).mono ?_; rintro e w1 ⟨rfl, hb⟩; have HB := Lib.hid hb; clear hb)
  go_ret
  exact ⟨rfl, HB.out⟩
set_option maxHeartbeats 1000000 in
theorem zpart_0 (a b n : Nat) (w : World) (ha : a < 4294967296) (hn : a % 256 = n) (hc : w.cell? ⟨b, 0, none⟩ = some (.int .u32 (a : Int))) (hp : Pow w) :
    Calls Tryd.prog 44 #[.int .i64 0, .pointer (some ⟨b, 0, none⟩)] w fun e w' => e = .returned (.string (btx (dec8 n))) ∧ Below w.heap.size w w' := by
  have hx : bits .and .u32 ((a : Int)) 255 = (n : Int) := by
    rw [and255 _ (by omega), hn]
  have hn2 : n < 256 := by omega
  have HP := Lib.hid hp
  clear hn hp
  go_enter Tryd.func44, Tryd.ntmps44
  go_wp2_with (go_at_call 27; refine (itoa7_any n hn2 _ HP.out).mono ?_; rintro e w1 ⟨rfl, hb⟩; have HB := Lib.hid hb; clear hb)
  go_ret
  exact ⟨rfl, HB.out⟩

set_option maxHeartbeats 1000000 in
set_option maxRecDepth 100000 in
theorem ztext_any (a : Nat) (w : World) (ha : a < 4294967296) (hp : Pow w) : Calls Tryd.prog 37 #[.int .u32 (a : Int)] w (TextPost7 (btx (text7 a)) w) := by
  have HB := Lib.hid ((Below.refl w.heap.size w).alloc (Nat.le_refl _) (.cells #[.int .u32 (a : Int)] 22))
  have HP := Lib.hid (hp.below HB.out)
  have HC : Hid ((w.alloc (.cells #[.int .u32 (a : Int)] 22)).cell? ⟨w.heap.size, 0, none⟩ = some (.int .u32 (a : Int))) := cell_one_new w (.int .u32 (a : Int)) 22 0 _ rfl
  have hlt : w.heap.size < (w.alloc (.cells #[.int .u32 (a : Int)] 22)).heap.size := by simp
  have HT : Hid (btx (text7 a) = btx (dec8 (a / 16777216)) ++ ⟨#[46]⟩ ++ btx (dec8 (a / 65536 % 256)) ++ ⟨#[46]⟩ ++ btx (dec8 (a / 256 % 256)) ++ ⟨#[46]⟩ ++ btx (dec8 (a % 256))) := by
    refine ByteArray.ext (Array.toList_inj.1 ?_)
    show text7 a = _
    simp [btx, text7]
  have e0 : a / 16777216 % 256 = a / 16777216 := Nat.mod_eq_of_lt (by omega)
  have E0 := Lib.hid e0
  have s0 : (btx (dec8 (a / 16777216))).size ≤ 3 := by rw [btx_size]; exact (dec8_len (by omega)).2
  have s1 : (btx (dec8 (a / 65536 % 256))).size ≤ 3 := by rw [btx_size]; exact (dec8_len (by omega)).2
  have s2 : (btx (dec8 (a / 256 % 256))).size ≤ 3 := by rw [btx_size]; exact (dec8_len (by omega)).2
  have s3 : (btx (dec8 (a % 256))).size ≤ 3 := by rw [btx_size]; exact (dec8_len (by omega)).2
  clear e0 hp
  go_enter Tryd.func37, Tryd.ntmps37
  go_wp2_with (first
    | (go_at_call 44; (with_reducible refine (zpart_24 a w.heap.size _ _ ha E0.out HC.out HP.out).mono ?_); rintro e w1 ⟨rfl, hb⟩; have HC := Lib.hid ((hb.cell (p := ⟨w.heap.size, 0, none⟩) hlt).trans HC.out); have hlt := Nat.lt_of_lt_of_le hlt hb.size; have HP := Lib.hid (HP.out.below hb); have HB := Lib.hid (HB.out.trans (hb.mono HB.out.size)); clear hb)
    | (go_at_call 44; (with_reducible refine (zpart_16 a w.heap.size _ _ ha rfl HC.out HP.out).mono ?_); rintro e w2 ⟨rfl, hb⟩; have HC := Lib.hid ((hb.cell (p := ⟨w.heap.size, 0, none⟩) hlt).trans HC.out); have hlt := Nat.lt_of_lt_of_le hlt hb.size; have HP := Lib.hid (HP.out.below hb); have HB := Lib.hid (HB.out.trans (hb.mono HB.out.size)); clear hb)
    | (go_at_call 44; (with_reducible refine (zpart_8 a w.heap.size _ _ ha rfl HC.out HP.out).mono ?_); rintro e w3 ⟨rfl, hb⟩; have HC := Lib.hid ((hb.cell (p := ⟨w.heap.size, 0, none⟩) hlt).trans HC.out); have hlt := Nat.lt_of_lt_of_le hlt hb.size; have HP := Lib.hid (HP.out.below hb); have HB := Lib.hid (HB.out.trans (hb.mono HB.out.size)); clear hb)
    | (go_at_call 44; (with_reducible refine (zpart_0 a w.heap.size _ _ ha rfl HC.out HP.out).mono ?_); rintro e w4 ⟨rfl, hb⟩; have HB := Lib.hid (HB.out.trans (hb.mono HB.out.size)); clear hb))
  go_ret
  exact ⟨by rw [HT.out]; rfl, HB.out⟩
end Go.Proofs.YtliklhldlofnjaaDoor
